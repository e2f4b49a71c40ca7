/-
  KitA: Gen, Oct, Str, Nums, BlBase, WkA, WkB, WkI, WkE, WkO, WkC, WkD, WkN, WkS, WkT, WkU, WkZ.
-/
import Derived.Test.YtjjdcnkbibkmkaaGreatDoorRows
import Derived.WalkKit
import Derived.ProofKit
import Derived.WalkSpells
import Derived.WalkLawsBesides
import Derived.OpenShut
import Derived.Below
import Derived.Lib.Hide
import Derived.Deep.QuietTactic
import Derived.BigQuiet
import Derived.Deep.Draws
import Derived.Laws.OwnMore
import Derived.Laws.CopyOwn
import Derived.OwnWalk
import Derived.Laws.MakeOwn
import Derived.Maps.AppendAt
import Derived.Laws.BytesArg
import Derived.StillTailTactics
import Derived.LoopN
import Derived.Laws.Tables
import Derived.Deep.WholeRow
import Derived.Deep.RegionHeld
import Derived.Laws.StructEq
import Derived.Laws.Slices
import Derived.Laws.CopyRow
import Derived.Laws.IdiomCopy
import Derived.Lib.Bytes
namespace Go.Proofs.YtjjdcnkbibkmkaaGreatDoor
open Go.ChangeShapes Go.WideShapes Go.ChangeAt Go.RowKit
set_option linter.unusedVariables false
variable {A a0:Option Addr} {B B' N b' g j k m:Nat} {F:Nat->BitVec 8} {Q':Exit->Act->World->Prop} {R:Ending->World->Prop} {a:Act} {ds:Array Value} {e t t':TypeId} {o':Oper} {q:Tmp} {ts:Array TypeId} {u v':Value} {us vs:List Value} {w' w0:World} {x:Operand} {xs ys z0:List Int}

/- Gen:
  Rows of a call's own, pieces of a slice: what names no type.
-/
def IsRow (k:IntKind) (w:World) (a:Option Addr) (len cap:Nat) (zs:List Int):Prop :=
 (a=none/\len=0/\cap=0/\zs=[]) \/
 ∃ x,a=some x/\len<=cap/\cap<=maxLen/\zs.length=cap/\(∀ i,i<zs.length->w.cell? (x.add i)=some (.int k (zs.getD i 0)))/\∀ n∈zs,(Lit.int k n).wf=true
def cutA (A:Option Addr) (l m:Nat):Option Addr:=if m=l then A else A.map (·.add (l*1))
theorem own_below {w:World} {base e size n:Nat} {v:Value} {xs:List Value} (h:w.ownsRow base e size v n xs) (hb:Below w.heap.size w w'):w'.ownsRow base e size v n xs:=by
 refine ⟨h.1,?_⟩;rcases h.2 with h | ⟨g,cap,cur,rfl,hg,hh,h1,h2,h3,h4⟩
 ·exact .inl h
 have hlt:g<w.heap.size:=(h.lt g rfl).2;exact .inr ⟨g,cap,cur,rfl,hg,(hb.block g hlt).trans hh,h1,h2,h3,h4⟩
/- Oct:
  Octets in memory: slices that read as lists of octets, rows of the call's own, appends and cuts.
-/
theorem retInt {k:IntKind} {a b:Int} (h:a=b):Ending.returned (.int k a)=.returned (.int k b):=by rw [h]
def Oct (w:World) (B:Nat) (A:Option Addr) (n:Nat) (xs:List Int):Prop :=
 xs.length=n/\(∀ x∈xs,0<=x/\x<=255) /\
 (0<n->∃ b o,A=some ⟨b,o,none⟩/\b<B/\∀ i x,xs[i]?=some x->w.cell? ⟨b,o+i,none⟩=some (.int .u8 x))
theorem Oct.tail {w:World} {n:Nat} {x:Int} (h:Oct w B A n (x::ys)) :
  ∃ b o,A=some ⟨b,o,none⟩/\b<B/\0<=x/\x<=255/\w.cell? ⟨b,o,none⟩=some (.int .u8 x)/\(∀ i y,ys[i]?=some y->w.cell? ⟨b,o+1+i,none⟩=some (.int .u8 y))/\(∀ y∈ys,0<=y/\y<=255):=by
 obtain ⟨hl,hb,hc⟩:=h;obtain ⟨b,o,rfl,hB,hc⟩:=hc (by rw [<-hl];simp);have hx:=hb x (by simp);refine ⟨b,o,rfl,hB,hx.1,hx.2,hc 0 x (by simp),fun i y hy=>?_,fun y hy=>hb y (by simp [hy])⟩;have:=hc (i+1) y (by simpa using hy);rwa [show o+1+i=o+(i+1) from by omega]
theorem Oct.cut {w:World} {b o n:Nat} (h:Oct w B (some ⟨b,o,none⟩) n xs) (k:Nat) (hk:k<=n) (o':Nat) (ho:k<n->o'=o+k) :
  Oct w B (some ⟨b,o',none⟩) (n-k) (xs.drop k):=by
 obtain ⟨hl,hb,hc⟩:=h;refine ⟨by rw [List.length_drop,hl],fun x hx=>hb x (List.mem_of_mem_drop hx),fun hn=>?_⟩;obtain ⟨b1,o1,he,hB,hc⟩:=hc (by omega);injection he with he
 injection he with hb1 ho1
 subst hb1 ho1;refine ⟨b,o+k,by rw [ho (by omega)],hB,fun i x hx=>?_⟩;have:=hc (k+i) x (by rw [List.getElem?_drop] at hx;exact hx);rwa [Nat.add_assoc]
theorem info5:(Tryz.prog.info? 5).map (fun i=>(i.zero,i.size,i.bytes))=some (some (.int .u8 0),1,1):=by kernel_rfl
def zeros (n:Nat):List Value:=List.replicate n (.int .u8 0)
theorem made_own (w:World) (g n k:Nat) (xs:List Int) (hl:xs.length=n) (hb:n+k<=maxLen)
  (h:w.heap[g]?=some (.cells (splice (zeros (n+k)) 0 (xs.map (Value.int .u8))).toArray 5 (0,0))) (base:Nat) (hg:base<=g) :
  w.ownsRow base 5 1 (.slice (some ⟨g,0,none⟩) n (n+k)) n (xs.map (Value.int .u8)):=by
 unfold zeros at h;refine ⟨by simp [hl],.inr ⟨g,n+k,_,rfl,hg,h,by omega,hb,?_,?_⟩⟩
 ·rw [List.size_toArray,length_splice _ _ _ (by simp;omega)];simp
 simp [splice,<-hl]
theorem make_row (n k:Nat) (K:Int) (hK:K=k) (hb:n+k<=140737488355328) (w:World) :
  (Instr.makeSlice 26 (.int .i64 (n:Int)) (.int .i64 ((n:Int)+K))).run Tryz.prog w=.ok (.slice (some ⟨w.heap.size,0,none⟩) n (n+k)) (w.alloc (.cells (zeros (n+k)).toArray 5)):=by
 subst hK;obtain ⟨i,hi,hz,hs,hby⟩:=info_parts info5;have hr:=run_make (P:=Tryz.prog) w 26 5 i _ Tryz.underlying26 hi hz .i64 .i64 (n:Int) ((n:Int)+(k:Int)) (by omega) (by omega) (by rw [hby];omega) (by omega);rw [hr];have e1:((n:Int)+(k:Int)).toNat=n+k:=by omega
 have e2:(madeCells (Value.int .u8 0).cells ((n+k)*i.size))=(zeros (n+k)).toArray:=by
  have:=toList_madeCells_one (Value.int .u8 0) (n+k);rw [hs,Nat.mul_one];exact Array.toList_inj.1 (by rw [List.toList_toArray];exact this)
 rw [e1,Int.toNat_natCast,e2]
theorem Oct.src {w:World} {n:Nat} (h:Oct w B A n xs) (hk:∀ p:Addr,p.block<B->w'.cell? p=w.cell? p) (hn:0<n) :
  ∃ ad,A=some ad/\∀ j v,(xs.map (Value.int .u8))[j]?=some v->w'.cell? (ad.add j)=some v:=by
 obtain ⟨b,o,rfl,hB,hc⟩:=h.2.2 hn;refine ⟨_,rfl,fun j v hv=>?_⟩;rw [List.getElem?_map,Option.map_eq_some_iff] at hv;obtain ⟨x,hx,rfl⟩:=hv;rw [Addr.add_lit,hk _ hB];exact hc j x hx
theorem copy_row (A:Option Addr) (n c B k:Nat) (xs:List Int) (w:World) (hO:Oct w B A n xs) (hB:B<=w.heap.size) (hb:n+k<=maxLen) :
  ∃ W1,(Builtin.copy_ #[26,26] 3 #[.slice (some ⟨w.heap.size,0,none⟩) n (n+k),.slice A n c]).run Tryz.prog (w.alloc (.cells (zeros (n+k)).toArray 5))=.ok (.int .i64 n) W1 /\
   W1.ownsRow w.heap.size 5 1 (.slice (some ⟨w.heap.size,0,none⟩) n (n+k)) n (xs.map (Value.int .u8))/\Below w.heap.size w W1/\w.heap.size<W1.heap.size:=by
 have hbel:Below w.heap.size w (w.alloc (.cells (zeros (n+k)).toArray 5)):=(Below.refl _ _).alloc (Nat.le_refl _) _;have hsz:(Tryz.prog.info? 5).map (·.size)=some 1:=by kernel_rfl
 have hnew:=heap_alloc_new w (.cells (zeros (n+k)).toArray 5);by_cases hn:n=0
 ·subst hn;have hxs:xs=[]:=List.eq_nil_of_length_eq_zero hO.1;subst hxs;refine ⟨_,run_copy_none (P:=Tryz.prog) _ 26 26 3 5 _ _ 0 _ 0 _ Tryz.underlying26 hsz (by simp),?_,hbel,by simp⟩;exact made_own _ _ 0 k [] rfl hb (by simpa [splice] using hnew) _ (Nat.le_refl _)
 obtain ⟨ad,rfl,hsrc⟩:=hO.src (w':=w.alloc (.cells (zeros (n+k)).toArray 5)) (fun p hp=>World.cell?_alloc_lt w _ p (by omega)) (by omega);have hlz:(zeros (n+k)).length=n+k:=by simp [zeros]
 have hrun:=run_copy_row (P:=Tryz.prog) _ 26 26 3 5 w.heap.size 0 n (n+k) ad n c (zeros (n+k)).toArray 5 (xs.map (Value.int .u8)) Tryz.underlying26 hsz hnew (by simp [hO.1]) hsrc (by simp [hlz,hO.1]) (ints_oneCell _ _);rw [hrun];refine ⟨_,by rw [List.length_map,hO.1];rfl,?_,below_setRow hbel (Nat.le_refl _) _,by simp [World.setRow]⟩;exact made_own _ _ n k xs hO.1 hb (by
  have h:=setRow_heap (w.alloc (.cells (zeros (n+k)).toArray 5)) w.heap.size _ ((zeros (n+k)).toArray.toList.take 0++xs.map (Value.int .u8)++(zeros (n+k)).toArray.toList.drop (0+(xs.map (Value.int .u8)).length)).toArray 5 _ hnew;rw [List.length_map,hO.1] at h;rw [h];simp [splice,hO.1]) _ (Nat.le_refl _)
theorem new_cells (w:World) (l:List Value):∀ j u,l[j]?=some u->(w.alloc (.cells l.toArray 5)).cell? ((⟨w.heap.size,0,none⟩:Addr).add j)=some u:=by
 intro j u hu;rw [Addr.add_lit,Nat.zero_add,cell_of_row _ _ j l.toArray 5 (0,0) (heap_alloc_new w _)];simpa using hu
theorem below_app {w a b:World} (h:Below B w a) (hB:B<=a.heap.size) (hg:B<=g) {o:Obj} (hb:(a.alloc o).grownBy b (some g)):Below B w b/\B<=b.heap.size:=by
 have h1:Below B w (a.alloc o):=h.alloc hB o;have h2:B<=(a.alloc o).heap.size:=by simp;omega
 exact ⟨h1.grown hb h2 (fun k hk=>by injection hk with hk;omega),Nat.le_trans h2 hb.size⟩
theorem Oct.keep {w:World} {n:Nat} (h:Oct w B A n xs) (hk:∀ p:Addr,p.block<B->w'.cell? p=w.cell? p):Oct w' B A n xs :=
 ⟨h.1,h.2.1,fun hn=>by
  obtain ⟨b,o,e,hB,hc⟩:=h.2.2 hn;exact ⟨b,o,e,hB,fun i x hx=>(hk _ hB).trans (hc i x hx)⟩⟩
theorem Oct.below {w:World} {n:Nat} (h:Oct w B A n xs) (hb:Below B w w'):Oct w' B A n xs:=h.keep fun _ hp=>hb.cell hp
theorem Oct.drewN {w:World} {n:Nat} (h:Oct w B A n xs) (d:Nat):Oct (w.drewN d) B A n xs:=h
theorem Oct.more {w:World} {n:Nat} (h:Oct w B A n xs) (hB:B<=B'):Oct w B' A n xs :=
 ⟨h.1,h.2.1,fun hn=>by
  obtain ⟨b,o,e,hb,hc⟩:=h.2.2 hn;exact ⟨b,o,e,by omega,hc⟩⟩
theorem Oct.mW {w:World} {n:Nat} (h:Oct w B A n xs) (q:World) (b:B<=q.heap.size:=by omega):Oct w q.heap.size A n xs:=h.more b
theorem Oct.nil (w:World) (B:Nat) (A:Option Addr):Oct w B A 0 []:=⟨rfl,by simp,fun h=>absurd h (by omega)⟩
theorem Oct.new (w:World) (xs:List Int) (hx:∀ x∈xs,0<=x/\x<=255):Oct (w.alloc (.cells (xs.map (Value.int .u8)).toArray 5)) (w.heap.size+1) (some ⟨w.heap.size,0,none⟩) xs.length xs :=
 ⟨rfl,hx,fun _=>⟨w.heap.size,0,rfl,by omega,fun i x hi=>by
  have:=new_cells w (xs.map (Value.int .u8)) i (.int .u8 x) (by rw [List.getElem?_map,hi];rfl);rwa [Addr.add_lit] at this⟩⟩
theorem below_drewN {a w:World} (h:Below B a w) (n:Nat):Below B a (w.drewN n):=⟨h.os,h.tape,h.output,h.size,h.block⟩
theorem below_of_drewN (w:World) (n:Nat):Below w.heap.size w (w.drewN n):=below_drewN (Below.refl _ _) n
theorem wf_u8 {x:Int} (h:(Lit.int .u8 x).wf=true):0<=x/\x<=255:=by
 have:=bounds_u8 h;omega
def Joined (w:World) (base:Nat) (v:Value) (xs ys:List Int) (v':Value) (w':World):Prop :=
 w'.ownsRow base 5 1 v' (xs.length+ys.length) ((xs++ys).map (Value.int .u8))/\w.grownBy w' v.ownBlock/\(v'.ownBlock=v.ownBlock\/v'.ownBlock=some w.heap.size)
theorem append_oct (w:World) (base:Nat) (v:Value) (xs ys:List Int) (A:Option Addr) (m c B:Nat) (hown:w.ownsRow base 5 1 v xs.length (xs.map (Value.int .u8))) (hO:Oct w B A m ys)
  (hb:xs.length+m<=70368744177664) (hbase:base<=w.heap.size) :
  ∃ v' w',(Builtin.append_ #[26,26] 26 #[v,.slice A m c]).run Tryz.prog w=.ok v' w'/\Joined w base v xs ys v' w':=by
 obtain ⟨i0,hi0,hz0,hz1,hz2⟩:=info_parts info5;have hm:=hO.1;by_cases h0:m=0/\A=none
 ·obtain ⟨rfl,rfl⟩:=h0;have hy:ys=[]:=List.eq_nil_of_length_eq_zero hm;subst hy;refine ⟨v,w,?_,by simpa using hown,World.grownBy.refl w _,.inl rfl⟩;rcases hown.2 with ⟨rfl,_⟩ | ⟨g,cap,cur,rfl,_,_,hnc,_⟩
  ·simp [Builtin.append_,run_underlying Tryz.underlying26,sizeOf,typeInfo,hi0,Builtin.lenOf,Builtin.firstCells]
  simp [Builtin.append_,run_underlying Tryz.underlying26,sizeOf,typeInfo,hi0,Builtin.lenOf,Builtin.firstCells,hnc,storeCells]
 have hA:∃ ad,A=some ad/\∀ j u,(ys.map (Value.int .u8))[j]?=some u->w.cell? (ad.add j)=some u:=by
  by_cases hm0:m=0
  ·cases A with
   | none=>exact absurd ⟨hm0,rfl⟩ h0
   | some ad =>
    have hy:ys=[]:=List.eq_nil_of_length_eq_zero (by omega);subst hy;exact ⟨ad,rfl,by simp⟩
  exact hO.src (w':=w) (fun _ _=>rfl) (by omega)
 obtain ⟨ad,rfl,hc⟩:=hA;obtain ⟨v',w',hrun,h1,h2,_,h3⟩:=run_append_own_at (P:=Tryz.prog) w base 26 26 5 i0 _ 1 1 Tryz.underlying26 hi0 hz0 hz1 hz2 rfl (by omega) v _ _ hown ad m c (ys.map (Value.int .u8)) (by simp [hm]) hc (ints_oneCell _ _) (by unfold maxLen;omega) (by omega) hbase;exact ⟨v',w',hrun,by rw [List.map_append,hm];exact h1,h2,h3⟩
theorem wpList_append_oct (w:World) {ops:Array Oper} {rest:List Oper} {o:Oper} {Q:Exit->Act->World->Prop} (hgd:o.guard=none) (s x:Operand)
  (ho:o.op=.call { callee:=.builtin .append,args:=#[s,x],argTypes:=#[26,26] }) (hty:o.type=26) (base:Nat) (v:Value) (xs ys:List Int) (A:Option Addr) (m c B:Nat)
  (hs:a.eval s=v) (hx:a.eval x=.slice A m c) (hown:w.ownsRow base 5 1 v xs.length (xs.map (Value.int .u8))) (hO:Oct w B A m ys) (hb:xs.length+m<=70368744177664) (hbase:base<=w.heap.size)
  (h:∀ v' w',Joined w base v xs ys v' w'->wpList Tryz.prog ops Q rest (a.put o.dst v') w'):wpList Tryz.prog ops Q (o::rest) a w:=by
 refine wpList_plain hgd fun K hK=>?_;obtain ⟨v',w',hrun,hj⟩:=append_oct w base v xs ys A m c B hown hO hb hbase;unfold Oper.wp;simp [execOp,ho,hty,resolve,invoke,builtin,hs,hx,hrun,Result.andThen];exact hK _ _ (h v' w' hj)
theorem own_slice {w:World} {base n:Nat} {v:Value} (h:w.ownsRow base 5 1 v n (ys.map (Value.int .u8))) (hn:0<n) (hy:∀ y∈ys,0<=y/\y<=255) :
  ∃ g cap,v=.slice (some ⟨g,0,none⟩) n cap/\n<=cap/\cap<=maxLen/\base<=g/\Oct w w.heap.size (some ⟨g,0,none⟩) n ys:=by
 have hl:ys.length=n:=by simpa using h.1
 rcases h.2 with ⟨_,h0⟩ | ⟨g,cap,cur,rfl,hg,hh,h1,h2,_⟩
 ·omega
 refine ⟨g,cap,rfl,h1,h2,hg,hl,hy,fun _=>⟨g,0,rfl,(h.lt g rfl).2,fun i x hx=>?_⟩⟩;have:=h.cells (g:=g) rfl i (.int .u8 x) (by rw [List.getElem?_map,hx];rfl);rwa [Addr.add_lit] at this
theorem joined_below {w:World} {base:Nat} {v:Value} {n:Nat} {l:List Value} (hown:w.ownsRow base 5 1 v n l) (h:Joined w base v xs ys v' w') (hb:Below base w0 w) (hB:base<=w.heap.size):Below base w0 w'/\base<=w'.heap.size :=
 ⟨hb.grown h.2.1 hB (fun k hk=>(hown.lt k hk).1),Nat.le_trans hB h.2.1.size⟩
theorem Oct.upto {w:World} {n:Nat} (h:Oct w B A n xs) (i:Nat) (hi:i<=n):Oct w B A i (xs.take i):=by
 refine ⟨by rw [List.length_take,h.1];omega,fun x hx=>h.2.1 x (List.mem_of_mem_take hx),fun hn=>?_⟩;obtain ⟨b,o,e,hB,hc⟩:=h.2.2 (by omega);refine ⟨b,o,e,hB,fun j x hx=>hc j x ?_⟩;rw [List.getElem?_take] at hx;split at hx
 ·exact hx
 cases hx
theorem oct_of_row {w:World} {len0 cap0:Nat} (h:IsRow .u8 w a0 len0 cap0 z0):len0<=cap0/\cap0<=maxLen/\Oct w w.heap.size a0 len0 (z0.take len0):=by
 rcases h with ⟨rfl,rfl,rfl,rfl⟩ | ⟨x,rfl,hl,hm,hz,hcell,hwz⟩
 ·exact ⟨Nat.le_refl _,Nat.zero_le _,Oct.nil _ _ _⟩
 refine ⟨hl,hm,by rw [List.length_take];omega,fun y hy=>wf_u8 (hwz y (List.mem_of_mem_take hy)),fun hn=>?_⟩;obtain ⟨b,off,spot⟩:=x;have hc:=hcell 0 (by omega);have hspot:spot=none:=by simpa [Addr.add] using World.cell?_spot hc
 subst hspot;refine ⟨b,off,rfl,World.block_lt_of_cell? w _ hc,fun i y hy=>?_⟩;rw [List.getElem?_take] at hy;split at hy
 ·have hi:=(List.getElem?_eq_some_iff.1 hy).1;have:=hcell i hi;rw [Addr.add_lit] at this;rw [this,List.getD,hy];rfl
 cases hy
def PutSl (w:World) (ys:List Int) (e:Ending) (w':World):Prop :=
 ∃ A n c,e=.returned (.slice A n c)/\n<=c/\c<=maxLen/\Oct w' w'.heap.size A n ys/\Below w.heap.size w w'
theorem own_sl {w:World} {base n:Nat} {v:Value} (h:w.ownsRow base 5 1 v n (ys.map (Value.int .u8))) (hy:∀ y∈ys,0<=y/\y<=255) :
  ∃ A cap,v=.slice A n cap/\n<=cap/\cap<=maxLen/\Oct w w.heap.size A n ys:=by
 by_cases hn:0<n
 ·obtain ⟨g,cap,rfl,h1,h2,_,hO⟩:=own_slice h hn hy;exact ⟨_,cap,rfl,h1,h2,hO⟩
 have hn0:n=0:=by omega
 subst hn0;have hl:ys.length=0:=by simpa using h.1
 have hys:ys=[]:=List.eq_nil_of_length_eq_zero hl;subst hys;rcases h.2 with ⟨rfl,_⟩ | ⟨g,cap,cur,rfl,_,_,h1,h2,_⟩
 ·exact ⟨none,0,rfl,Nat.le_refl _,Nat.zero_le _,Oct.nil _ _ _⟩
 exact ⟨_,cap,rfl,h1,h2,Oct.nil _ _ _⟩
def OwnSl (w:World) (base:Nat) (ys:List Int) (e:Ending) (w':World):Prop :=
 ∃ v,e=.returned v/\w'.ownsRow base 5 1 v ys.length (ys.map (Value.int .u8))/\Below base w w'/\base<=w'.heap.size
theorem Oct.cutA {w:World} {n:Nat} (h:Oct w B A n xs) (l m:Nat) (hn:n<=m) (hl:l<=n):Oct w B (cutA A l m) (n-l) (xs.drop l):=by
 refine ⟨by rw [List.length_drop,h.1],fun x hx=>h.2.1 x (List.mem_of_mem_drop hx),fun h0=>?_⟩;obtain ⟨b,o,rfl,hB,hc⟩:=h.2.2 (by omega);refine ⟨b,o+l,?_,hB,fun i x hx=>?_⟩
 ·unfold Go.Proofs.YtjjdcnkbibkmkaaGreatDoor.cutA;rw [if_neg (by omega),Option.map_some,Addr.add_lit,Nat.mul_one]
 have:=hc (l+i) x (by rw [List.getElem?_drop] at hx;exact hx);rwa [Nat.add_assoc]
theorem sizeOf_octet (w:World):(sizeOf 5).run Tryz.prog w=.ok 1 w:=by
 obtain ⟨i0,hi0,hz0,hz1,hz2⟩:=info_parts info5;simp [sizeOf,typeInfo,hi0,hz1]
theorem elem_octets:Tryz.prog.elem 26=5:=by kernel_rfl
set_option maxRecDepth 20000 in
theorem run_cut_l (A:Option Addr) (n c l:Nat) (lo:Int) (e:lo=l) (h:l<=n) (w:World) :
  (Instr.sliceAt 26 (.slice A n c) (some (.int .i64 lo)) none none).run Tryz.prog w=.ok (.slice (cutA A l c) (n-l) (c-l)) w:=by
 subst e;rw [run_sliceAt_slice _ _ _ _ _ _ Tryz.underlying26,run_slice_l _ _ _ _ _ Tryz.underlying26 _ _ (by omega) (by omega),elem_octets,sizeOf_octet];rfl
set_option maxRecDepth 20000 in
theorem run_cut_h (A:Option Addr) (n c l:Nat) (hi:Int) (e:hi=l) (h:l<=c) (w:World) :
  (Instr.sliceAt 26 (.slice A n c) none (some (.int .i64 hi)) none).run Tryz.prog w=.ok (.slice A l c) w:=by
 subst e;rw [run_sliceAt_slice _ _ _ _ _ _ Tryz.underlying26,run_slice_h _ _ _ _ _ Tryz.underlying26 _ _ (by omega) (by omega),elem_octets,sizeOf_octet];cases A with
 | none=>simp [sliced,Result.andThen]
 | some a=>simp [sliced,Result.andThen,Addr.add]
set_option maxRecDepth 20000 in
theorem run_cut_hm (A:Option Addr) (n c l:Nat) (hi:Int) (e:hi=l) (h:l<=c) (w:World) :
  (Instr.sliceAt 26 (.slice A n c) none (some (.int .i64 hi)) (some (.int .i64 hi))).run Tryz.prog w=.ok (.slice A l l) w:=by
 subst e;rw [run_sliceAt_slice _ _ _ _ _ _ Tryz.underlying26,run_slice_hm _ _ _ _ _ Tryz.underlying26 _ _ _ _ (by omega) (by omega) (by omega),elem_octets,sizeOf_octet];cases A with
 | none=>simp [sliced,Result.andThen]
 | some a=>simp [sliced,Result.andThen,Addr.add]
set_option maxRecDepth 20000 in
theorem run_cut_lh (A:Option Addr) (n c l m:Nat) (lo hi:Int) (e:lo=l) (e2:hi=m) (h:l<=m) (h2:m<=c) (w:World) :
  (Instr.sliceAt 26 (.slice A n c) (some (.int .i64 lo)) (some (.int .i64 hi)) none).run Tryz.prog w=.ok (.slice (cutA A l c) (m-l) (c-l)) w:=by
 subst e e2;rw [run_sliceAt_slice _ _ _ _ _ _ Tryz.underlying26,run_slice_lh _ _ _ _ _ Tryz.underlying26 _ _ _ _ (by omega) (by omega) (by omega),elem_octets,sizeOf_octet];rfl
theorem make_room (k:Nat) (K:Int) (hK:K=k) (hb:k<=140737488355328) (w:World) :
  (Instr.makeSlice 26 (.int .i64 0) (.int .i64 K)).run Tryz.prog w=.ok (.slice (some ⟨w.heap.size,0,none⟩) 0 k) (w.alloc (.cells (zeros k).toArray 5)):=by
 have h:=make_row 0 k K hK (by omega) w;simpa using h
theorem room_own (k:Nat) (hb:k<=maxLen) (w:World):(w.alloc (.cells (zeros k).toArray 5)).ownsRow w.heap.size 5 1 (.slice (some ⟨w.heap.size,0,none⟩) 0 k) 0 [] :=
 ⟨rfl,.inr ⟨w.heap.size,k,_,rfl,Nat.le_refl _,heap_alloc_new w _,Nat.zero_le _,hb,by simp [zeros],rfl⟩⟩
/- Str:
  Octets read as strings.
-/
theorem Oct.str {w:World} {n:Nat} (h:Oct w B A n xs) (c:Nat) :
  (convert 26 9 (.slice A n c)).run Tryz.prog w=.ok (.string (strOfNums xs)) w:=by
 by_cases hn:n=0
 ·subst hn;have hx:xs=[]:=List.eq_nil_of_length_eq_zero h.1;subst hx;cases A with
  | none=>exact run_convert_bytes_nil w 26 5 Tryz.underlying26 Tryz.underlying5 0 c 9 Tryz.underlying9
  | some a =>
   rw [run_convert_bytes_string w 26 9 5 _ 0 c Tryz.underlying26 Tryz.underlying5 Tryz.underlying9];rw [run_bytesToString w a 0 c [] (by simpa using run_loadCells_list (P:=Tryz.prog) w a [] (by simp))];rfl
 obtain ⟨b,o,rfl,_,hc⟩:=h.2.2 (by omega);exact run_convert_bytes_arg w 26 5 Tryz.underlying26 Tryz.underlying5 b o n c xs h.1 (fun i hi=>by
  have hl:i<xs.length:=by rw [h.1];exact hi
  rw [hc i xs[i] (List.getElem?_eq_getElem hl)];simp [List.getD,List.getElem?_eq_getElem hl]) 9 Tryz.underlying9
/- Nums:
  Slices of ints in memory.
-/
def Nums (w:World) (B:Nat) (A:Option Addr) (n:Nat) (ls:List Int):Prop :=
 ls.length=n/\(0<n->∃ b o,A=some ⟨b,o,none⟩/\b<B/\∀ i x,ls[i]?=some x->w.cell? ⟨b,o+i,none⟩=some (.int .i64 x))
theorem Nums.keep {w:World} {n:Nat} (h:Nums w B A n xs) (hk:∀ p:Addr,p.block<B->w'.cell? p=w.cell? p):Nums w' B A n xs :=
 ⟨h.1,fun hn=>by
  obtain ⟨b,o,e,hB,hc⟩:=h.2 hn;exact ⟨b,o,e,hB,fun i x hx=>(hk _ hB).trans (hc i x hx)⟩⟩
theorem Nums.below {w:World} {n:Nat} (h:Nums w B A n xs) (hb:Below B w w'):Nums w' B A n xs:=h.keep fun _ hp=>hb.cell hp
theorem Nums.more {w:World} {n:Nat} (h:Nums w B A n xs) (hB:B<=B'):Nums w B' A n xs :=
 ⟨h.1,fun hn=>by
  obtain ⟨b,o,e,hb,hc⟩:=h.2 hn;exact ⟨b,o,e,by omega,hc⟩⟩
theorem Nums.mW {w:World} {n:Nat} (h:Nums w B A n xs) (q:World) (b:B<=q.heap.size:=by omega):Nums w q.heap.size A n xs:=h.more b
theorem Nums.nil (w:World) (B:Nat) (A:Option Addr):Nums w B A 0 []:=⟨rfl,fun h=>absurd h (by omega)⟩
def zerosI (n:Nat):List Value:=List.replicate n (.int .i64 0)
theorem zerosI_length (n:Nat):(zerosI n).length=n:=by simp [zerosI]
theorem zerosI_succ (n:Nat):zerosI (n+1)=.int .i64 0::zerosI n:=rfl
theorem infoInt:(Tryz.prog.info? 3).map (fun i=>(i.zero,i.size,i.bytes))=some (some (.int .i64 0),1,8):=by kernel_rfl
theorem make_nums (k:Nat) (K:Int) (hK:K=k) (hb:k<=1048576) (w:World) :
  (Instr.makeSlice 36 (.int .i64 K) (.int .i64 K)).run Tryz.prog w=.ok (.slice (some ⟨w.heap.size,0,none⟩) k k) (w.alloc (.cells (zerosI k).toArray 3)):=by
 subst hK;obtain ⟨i,hi,hz,hs,hby⟩:=info_parts infoInt;have hr:=run_make (P:=Tryz.prog) w 36 3 i _ Tryz.underlying36 hi hz .i64 .i64 (k:Int) (k:Int) (by omega) (by omega) (by rw [hby];omega) (by omega);rw [hr];have e2:(madeCells (Value.int .i64 0).cells (k*i.size))=(zerosI k).toArray:=by
  have:=toList_madeCells_one (Value.int .i64 0) k;rw [hs,Nat.mul_one];exact Array.toList_inj.1 (by rw [List.toList_toArray];exact this)
 rw [Int.toNat_natCast,e2]
def rowAt (ls:List Int) (k j:Nat):List Value:=(ls.take j).map (Value.int .i64)++zerosI (k-j)
theorem rowAt_get (ls:List Int) (k j:Nat) (hl:ls.length=k) (h:j<k):(rowAt ls k j)[j]?=some (.int .i64 0):=by
 unfold rowAt;have e:((ls.take j).map (Value.int .i64)).length=j:=by simp;omega
 rw [List.getElem?_append_right (by omega),e,Nat.sub_self,show k-j=(k-j-1)+1 from by omega,zerosI_succ];rfl
theorem rowAt_set (ls:List Int) (k j:Nat) (hl:ls.length=k) (h:j<k) (y:Int) (hy:ls.take (j+1)=ls.take j++[y]):(rowAt ls k j).set j (.int .i64 y)=rowAt ls k (j+1):=by
 unfold rowAt;have e:((ls.take j).map (Value.int .i64)).length=j:=by simp;omega
 rw [List.set_append_right _ _ (by omega),e,Nat.sub_self,show k-j=(k-(j+1))+1 from by omega,zerosI_succ,hy];simp
theorem own_nums {w:World} {base n:Nat} (h:w.ownsRow base 3 1 (.slice (some ⟨g,0,none⟩) n n) n (ys.map (Value.int .i64))):Nums w w.heap.size (some ⟨g,0,none⟩) n ys:=by
 have hl:ys.length=n:=by simpa using h.1
 refine ⟨hl,fun _=>⟨g,0,rfl,(h.lt g rfl).2,fun i x hx=>?_⟩⟩;have:=h.cells (g:=g) rfl i (.int .i64 x) (by rw [List.getElem?_map,hx];rfl);rwa [Addr.add_lit] at this
theorem nums_of_row {w:World} {len0 cap0:Nat} (h:IsRow .i64 w a0 len0 cap0 z0):len0<=cap0/\cap0<=maxLen/\Nums w w.heap.size a0 len0 (z0.take len0):=by
 rcases h with ⟨rfl,rfl,rfl,rfl⟩ | ⟨x,rfl,hl,hm,hz,hcell,hwz⟩
 ·exact ⟨Nat.le_refl _,Nat.zero_le _,Nums.nil _ _ _⟩
 refine ⟨hl,hm,by rw [List.length_take];omega,fun hn=>?_⟩;obtain ⟨b,off,spot⟩:=x;have hc:=hcell 0 (by omega);have hspot:spot=none:=by simpa [Addr.add] using World.cell?_spot hc
 subst hspot;refine ⟨b,off,rfl,World.block_lt_of_cell? w _ hc,fun i y hy=>?_⟩;rw [List.getElem?_take] at hy;split at hy
 ·have hi:=(List.getElem?_eq_some_iff.1 hy).1;have:=hcell i hi;rw [Addr.add_lit] at this;rw [this,List.getD,hy];rfl
 cases hy
def JoinedNum (w:World) (base:Nat) (v:Value) (xs:List Int) (y:Int) (v':Value) (w':World):Prop :=
 w'.ownsRow base 3 1 v' (xs.length+1) ((xs++[y]).map (Value.int .i64))/\w.grownBy w' v.ownBlock/\(v'.ownBlock=v.ownBlock\/v'.ownBlock=some w.heap.size)
theorem append_num (w:World) (base:Nat) (v:Value) (xs:List Int) (y:Int) (g:Nat) (hown:w.ownsRow base 3 1 v xs.length (xs.map (Value.int .i64))) (hc:w.cell? ⟨g,0,none⟩=some (.int .i64 y))
  (hb:xs.length<=1000000000) (hbase:base<=w.heap.size) :
  ∃ v' w',(Builtin.append_ #[36,36] 36 #[v,.slice (some ⟨g,0,none⟩) 1 1]).run Tryz.prog w=.ok v' w'/\JoinedNum w base v xs y v' w':=by
 obtain ⟨i0,hi0,hz0,hz1,hz2⟩:=info_parts infoInt;obtain ⟨v',w',hrun,h1,h2,_,h3⟩:=run_append_own_at (P:=Tryz.prog) w base 36 36 3 i0 _ 1 8 Tryz.underlying36 hi0 hz0 hz1 hz2 rfl (by omega) v _ _ hown ⟨g,0,none⟩ 1 1 ([y].map (Value.int .i64)) rfl (fun j u hj=>by
  match j,hj with
  | 0,hj =>
   simp at hj;subst hj;rw [Addr.add_lit];exact hc
  | j+1,hj=>simp at hj) (ints_oneCell _ _) (by unfold maxLen;omega) (by omega) hbase
 exact ⟨v',w',hrun,by rw [List.map_append];exact h1,h2,h3⟩
theorem joinedNum_below {w:World} {base:Nat} {v:Value} {y:Int} {n:Nat} {l:List Value} (hown:w.ownsRow base 3 1 v n l) (h:JoinedNum w base v xs y v' w') (hb:Below base w0 w) (hB:base<=w.heap.size):Below base w0 w'/\base<=w'.heap.size :=
 ⟨hb.grown h.2.1 hB (fun k hk=>(hown.lt k hk).1),Nat.le_trans hB h.2.1.size⟩
theorem own_nums_any {w:World} {base n:Nat} {v:Value} (h:w.ownsRow base 3 1 v n (ys.map (Value.int .i64))):∃ A cap,v=.slice A n cap/\Nums w w.heap.size A n ys:=by
 have hl:ys.length=n:=by simpa using h.1
 rcases h.2 with ⟨rfl,rfl⟩ | ⟨g,cap,cur,rfl,_⟩
 ·have e:ys=[]:=List.eq_nil_of_length_eq_zero hl;subst e;exact ⟨none,0,rfl,Nums.nil _ _ _⟩
 refine ⟨_,cap,rfl,hl,fun _=>⟨g,0,rfl,(h.lt g rfl).2,fun i x hx=>?_⟩⟩;have:=h.cells (g:=g) rfl i (.int .i64 x) (by rw [List.getElem?_map,hx];rfl);rwa [Addr.add_lit] at this
/- BlBase:
  Words of 32 bits and octets as values; what the operations on them answer.
-/
def vw (x:BitVec 32):Int:=(x.toNat:Int)
def vb (x:BitVec 8):Int:=(x.toNat:Int)

theorem vw_ofInt (x:BitVec 32):BitVec.ofInt 32 (vw x)=x:=by
 unfold vw;rw [BitVec.ofInt_natCast,BitVec.ofNat_toNat,BitVec.setWidth_eq]
theorem vb_ofInt (x:BitVec 8):BitVec.ofInt 8 (vb x)=x:=by
 unfold vb;rw [BitVec.ofInt_natCast,BitVec.ofNat_toNat,BitVec.setWidth_eq]
theorem wrap_u32 (n:Int):IntKind.u32.wrap n=n % 4294967296:=by
 unfold IntKind.wrap;simp [IntKind.bits,IntKind.signed]
theorem wrap_u8 (n:Int):IntKind.u8.wrap n=n % 256:=by
 unfold IntKind.wrap;simp [IntKind.bits,IntKind.signed]
theorem vw_range (x:BitVec 32):0<=vw x/\vw x<=4294967295:=by
 unfold vw;have:=x.isLt;omega
theorem vb_range (x:BitVec 8):0<=vb x/\vb x<=255:=by
 unfold vb;have:=x.isLt;omega
theorem vw_wrap (x:BitVec 32):IntKind.u32.wrap (vw x)=vw x:=by
 have:=vw_range x;rw [wrap_u32];omega
theorem wrap_of (n:Int):IntKind.u32.wrap n=vw (BitVec.ofInt 32 n):=by
 rw [wrap_u32];unfold vw;rw [BitVec.toNat_ofInt];omega
theorem u_and (x y:BitVec 32):bits .and .u32 (vw x) (vw y)=vw (x &&& y):=by
 show IntKind.u32.wrap ((BitVec.ofInt 32 (vw x) &&& BitVec.ofInt 32 (vw y)).toNat:Nat)=_;rw [vw_ofInt,vw_ofInt];exact vw_wrap _
theorem u_or (x y:BitVec 32):bits .or .u32 (vw x) (vw y)=vw (x ||| y):=by
 show IntKind.u32.wrap ((BitVec.ofInt 32 (vw x) ||| BitVec.ofInt 32 (vw y)).toNat:Nat)=_;rw [vw_ofInt,vw_ofInt];exact vw_wrap _
theorem u_xor (x y:BitVec 32):bits .xor .u32 (vw x) (vw y)=vw (x ^^^ y):=by
 show IntKind.u32.wrap ((BitVec.ofInt 32 (vw x) ^^^ BitVec.ofInt 32 (vw y)).toNat:Nat)=_;rw [vw_ofInt,vw_ofInt];exact vw_wrap _
theorem u_not (x:BitVec 32):bits .xor .u32 IntKind.u32.max (vw x)=vw (~~~x):=by
 rw [show IntKind.u32.max=vw 4294967295#32 from rfl,u_xor];refine congrArg vw ?_;rw [show (4294967295#32:BitVec 32)=BitVec.allOnes 32 from rfl,BitVec.allOnes_xor]
theorem u_add (x y:BitVec 32):IntKind.u32.wrap (vw x+vw y)=vw (x+y):=by
 rw [wrap_of];refine congrArg vw ?_;rw [BitVec.ofInt_add,vw_ofInt,vw_ofInt]
theorem u_shr (P:Program) (x:BitVec 32) (k:Nat) (hk:k<32) (yk:IntKind) (w:World):(Op.shift .shr .u32 (vw x) yk (k:Nat)).run P w=.ok (.int .u32 (vw (x >>> k))) w:=by
 have e:(vw x).fdiv (2 ^ k)=vw (x >>> k):=by
  unfold vw;rw [BitVec.toNat_ushiftRight,Nat.shiftRight_eq_div_pow,Int.fdiv_eq_ediv_of_nonneg _ (by exact_mod_cast Nat.zero_le (2 ^ k)),Int.natCast_ediv,Int.natCast_pow];rfl
 unfold Op.shift;rw [if_neg (by omega)];have hm:min ((k:Int).toNat) IntKind.u32.bits=k:=by
  show min ((k:Int).toNat) 32=k;omega
 simp only [hm,e];rfl
theorem e_shl (x:BitVec 32) (k:Nat):vw x*2 ^ k % 4294967296=vw (x <<< k):=by
 unfold vw;rw [BitVec.toNat_shiftLeft,Nat.shiftLeft_eq,Int.natCast_emod,Int.natCast_mul,Int.natCast_pow];rfl
theorem e_shr (x:BitVec 32) (k:Nat):vw x / 2 ^ k=vw (x >>> k):=by
 unfold vw;rw [BitVec.toNat_ushiftRight,Nat.shiftRight_eq_div_pow,Int.natCast_ediv,Int.natCast_pow];rfl
theorem u_of_b (x:BitVec 8):vb x=vw (x.setWidth 32):=by
 unfold vb vw;rw [BitVec.toNat_setWidth];have:=x.isLt;omega
theorem neg_and (n:Nat) (h0:0<n) (h1:n<32):bits .and .u64 (IntKind.u64.wrap (-(n:Int))) 31=((32-n:Nat):Int):=by
 have:∀ n:Fin 32,0<n.val->bits .and .u64 (IntKind.u64.wrap (-(n.val:Int))) 31=((32-n.val:Nat):Int):=by decide
 exact this ⟨n,h1⟩ h0
/- WkA:
  A walk that knows of a frame only what lies in the slots that it names: rules for lists of operations, for regions whose order is left open, for code.
-/
abbrev Env:=List (Nat × Value)
def look:Env->Nat->Option Value
 | [],_=>none
 | (k,v)::r,d=>bif Nat.beq k d then some v else look r d
def val (E:Env):Operand->Option Value
 | .tmp t=>look E t
 | .const v=>some v
 | .global g=>some (.pointer (some ⟨g,0,none⟩))
 | .func f=>some (.func (.func f) #[] #[])
def Holds (n:Nat) (E:Env) (a:Act):Prop:=a.tmps.size=n/\a.defers=[]/\∀ d v,look E d=some v->a.tmps[d]?=some v

theorem Holds.put {n d:Nat} {E:Env} {v:Value} (h:Holds n E a) (hd:d<n):Holds n ((d,v)::E) (a.put (some d) v):=by
 obtain ⟨h1,h2,h3⟩:=h;refine ⟨by simp [Act.put,h1],by simp [Act.put,h2],fun k u hk=>?_⟩;unfold look at hk;by_cases e:d=k
 ·subst e;simp at hk;simp [Act.put,h1,hd,hk]
 have:Nat.beq d k=false:=by
  rw [Bool.eq_false_iff];intro q;exact e (Nat.eq_of_beq_eq_true q)
 rw [this] at hk;simp only [cond_false] at hk;simp [Act.put,e,h3 k u hk]
theorem Holds.eval {n:Nat} {E:Env} {v:Value} (h:Holds n E a) (hx:val E x=some v):a.eval x=v:=by
 cases x with
 | tmp t =>
  have:=h.2.2 t v hx;simp [Act.eval,this]
 | const u=>simpa [val,Act.eval] using hx
 | global g=>simpa [val,Act.eval] using hx
 | func f=>simpa [val,Act.eval] using hx
theorem Holds.weak {n:Nat} {E E':Env} (h:Holds n E a) (hs:∀ d v,look E' d=some v->look E d=some v):Holds n E' a :=
 ⟨h.1,h.2.1,fun d v q=>h.2.2 d v (hs d v q)⟩
theorem Holds.keep {n:Nat} {E E':Env} (h:Holds n E a) (hs:∀ p∈E',look E p.1=some p.2):Holds n E' a:=by
 refine h.weak fun d v q=>?_;induction E' with
 | nil=>simp [look] at q
 | cons p r ih =>
  obtain ⟨k,u⟩:=p;unfold look at q;by_cases e:k=d
  ·subst e;simp at q;subst q;exact hs (k,u) (by simp)
  have:Nat.beq k d=false:=by
   rw [Bool.eq_false_iff];intro q;exact e (Nat.eq_of_beq_eq_true q)
  rw [this] at q;exact ih (fun p hp=>hs p (by simp [hp])) q
theorem Holds.lit {n:Nat} {E:Env} {l:List Value} (hn:l.length=n) (hs:∀ p∈E,l[p.1]?=some p.2):Holds n E { tmps:=l.toArray,defers:=[] }:=by
 refine ⟨by simpa using hn,rfl,fun d v q=>?_⟩;induction E with
 | nil=>simp [look] at q
 | cons p r ih =>
  obtain ⟨k,u⟩:=p;unfold look at q;by_cases e:k=d
  ·subst e;simp at q;subst q;simpa using hs (k,u) (by simp)
  have:Nat.beq k d=false:=by
   rw [Bool.eq_false_iff];intro q;exact e (Nat.eq_of_beq_eq_true q)
  rw [this] at q;exact ih (fun p hp=>hs p (by simp [hp])) q

section
variable {P:Program} {ops:Array Oper} {Q:Exit->Act->World->Prop} {n d:Nat} {E:Env} {o:Oper} {rest:List Oper} {w:World} {v:Value}

def Yields (P:Program) (E:Env) (o:Oper) (w:World) (v:Value):Prop:=∀ n a,Holds n E a ->
 ((execOp a.eval o).run P w=.ok (.value v) w\/∃ f args,(execOp a.eval o).run P w=.ok (.enter f args) w/\Calls P f args w fun e w'=>e=.returned v/\w'=w)
def LG (P:Program) (ops:Array Oper) (Q:Exit->Act->World->Prop) (n:Nat) (E:Env) (rest:List Oper) (w:World):Prop:=∀ a,Holds n E a->wpList P ops Q rest a w
def SG (P:Program) (ops:Array Oper) (Q:Act->Prop) (n:Nat) (E:Env) (rest:List Oper) (w:World):Prop:=∀ a,Holds n E a->wpStill P ops w Q rest a
def CG (P:Program) (Q:Exit->Act->World->Prop) (n:Nat) (E:Env) (c:Code) (w:World):Prop:=∀ a,Holds n E a->c.wp P Q a w

theorem wanted_none (hg:o.guard=none) (f:Nat->Option Bool):Region.wanted o f=true:=by
 simp [Region.wanted,hg]
theorem ls (y:Yields P E o w v) (hd:o.dst=some d) (hg:o.guard=none) (hn:d<n) (h:LG P ops Q n ((d,v)::E) rest w):LG P ops Q n E (o::rest) w:=by
 intro a ha;have h':=h _ (ha.put (v:=v) hn);rw [<-hd] at h';unfold wpList;rw [wanted_none hg,if_pos rfl];refine .inl ?_;unfold Oper.wp;rcases y n a ha with hy | ⟨f,args,hy,hc⟩
 ·rw [hy];exact h'
 rw [hy,Oper.upon_enter];refine hc.mono ?_;rintro e w' ⟨rfl,rfl⟩;exact h'
theorem st {Q:Act->Prop} (y:Yields P E o w v) (hd:o.dst=some d) (hg:o.guard=none) (hn:d<n) (h:SG P ops Q n ((d,v)::E) rest w):SG P ops Q n E (o::rest) w:=by
 intro a ha;have h':=h _ (ha.put (v:=v) hn);rw [<-hd] at h';unfold wpStill;rw [wanted_none hg,if_pos rfl];unfold Oper.still;rcases y n a ha with hy | ⟨f,args,hy,hc⟩
 ·rw [hy];exact ⟨rfl,h'⟩
 rw [hy];exact ⟨rfl,v,hc,h'⟩
theorem Qk (h:∀ a,Holds n E a->Q .normal a w):LG P ops Q n E [] w:=h
theorem sg_nil {Q:Act->Prop} (h:∀ a,Holds n E a->Q a):SG P ops Q n E [] w:=h
theorem Qe {id:Nat} {l:List Oper} (h:LG P l.toArray Q n E l w):CG P Q n E (.region id l.toArray false) w:=fun a ha=>wp_region_lit (h a ha)
theorem cg_still {id:Nat} {l:List Oper} (hm:P.follows .mixedOrders=true) (hB:Region.lexB .any l.toArray=true)
  (h:∀ W,W=w.drew->SG P l.toArray (fun a=>Q .normal a W) n E l W):CG P Q n E (.region id l.toArray true) w:=fun a ha =>
 wp_region_still_lit hm hB (h _ rfl a ha)
theorem cg_tail {id:Nat} {l:List Oper} (k:Nat) (hm:P.follows .mixedOrders=true) (hB:Region.lexTailB .any l.toArray k=true)
  (h:∀ W,W=w.drew->SG P l.toArray (fun a=>wpList P l.toArray Q (l.drop k) a W) n E (l.take k) W):CG P Q n E (.region id l.toArray true) w:=fun a ha =>
 wp_region_still_tail k hm hB (h _ rfl a ha)
theorem Qd {x y:Code} (h:CG P (Exit.then (y.wp P Q) Q) n E x w):CG P Q n E (.seq x y) w:=fun a ha=>wp_seq (h a ha)
theorem Qj {id:Nat} {c:Code} (h:CG P (Exit.inBlock id Q) n E c w):CG P Q n E (.block id c) w:=fun a ha=>wp_block (h a ha)
theorem cg_cond {c:Operand} {x y:Code} (t:Bool) (hc:val E c=some (.bool t)) (h1:t=true->CG P Q n E x w) (h0:t=false->CG P Q n E y w):CG P Q n E (.cond c x y) w:=fun a ha =>
 wp_cond_split (ha.eval hc) (fun e=>h1 e a ha) (fun e=>h0 e a ha)
theorem cg_skip (h:∀ a,Holds n E a->Q .normal a w):CG P Q n E .skip w:=fun a ha=>wp_skip (h a ha)
theorem cg_ret (h:∀ a,Holds n E a->Q .ret a w):CG P Q n E .ret w:=fun a ha=>wp_ret (h a ha)
theorem cg_exit {id:Nat} (h:∀ a,Holds n E a->Q (.exit id) a w):CG P Q n E (.exit id) w:=fun a ha=>wp_exit (h a ha)

-- what the operations yield
theorem y_move (ho:o.op=.move x:=by rfl) (hx:val E x=some v:=by rfl):Yields P E o w v:=fun n a ha=>.inl (by
 unfold execOp;rw [ho];simp only [ha.eval hx];rfl)
theorem y_assign (ho:o.op=.assign x:=by rfl) (hx:val E x=some v:=by rfl):Yields P E o w v:=fun n a ha=>.inl (by
 unfold execOp;rw [ho];simp only [ha.eval hx];rfl)
theorem y_bin {y:Operand} {b:BinOp} {vx vy:Value} (hb:∀ x y w,(do eqGuard b t x y vx vy;binOp b t vx vy).run P w=.ok v w) (ho:o.op=.binOp b t x y t') (hx:val E x=some vx) (hy:val E y=some vy):Yields P E o w v:=fun n a ha=>.inl (by
 unfold execOp;rw [ho];simp only [ha.eval hx,ha.eval hy];rw [Sem.run_bind,hb x y w];rfl)
theorem y_un {b:UnOp} {vx:Value} (hb:∀ w,(Op.unary b vx).run P w=.ok v w) (ho:o.op=.unOp b t x) (hx:val E x=some vx):Yields P E o w v:=fun n a ha=>.inl (by
 unfold execOp;rw [ho];simp only [ha.eval hx];rw [Sem.run_bind,hb w];rfl)
theorem y_conv {s:TypeId} {vx:Value} (hb:∀ w,(convert s t vx).run P w=.ok v w) (ho:o.op=.convert s t x) (hx:val E x=some vx):Yields P E o w v:=fun n a ha=>.inl (by
 unfold execOp;rw [ho];simp only [ha.eval hx];rw [Sem.run_bind,hb w];rfl)
theorem y_load {p:Addr} (hb:(loadVar t p).run P w=.ok v w) (ho:o.op=.load t x) (hx:val E x=some (.pointer (some p))):Yields P E o w v:=fun n a ha=>.inl (by
 unfold execOp;rw [ho];simp only [ha.eval hx,Instr.loadAt,Instr.sureAddr,Sem.run_bind,Sem.run_pure,Result.andThen_ok,hb])
theorem y_ix {y:Operand} {vx vy:Value} (hb:(Instr.indexAt t vx vy).run P w=.ok v w) (ho:o.op=.indexAddr t x y) (hx:val E x=some vx) (hy:val E y=some vy):Yields P E o w v:=fun n a ha=>.inl (by
 unfold execOp;rw [ho];simp only [ha.eval hx,ha.eval hy];rw [Sem.run_bind,hb];rfl)
theorem y_index {y:Operand} {vx vy:Value} (hb:(Instr.index t vx vy).run P w=.ok v w) (ho:o.op=.index t x y) (hx:val E x=some vx) (hy:val E y=some vy):Yields P E o w v:=fun n a ha=>.inl (by
 unfold execOp;rw [ho];simp only [ha.eval hx,ha.eval hy];rw [Sem.run_bind,hb];rfl)
theorem call_enter {f: FuncId} (hf : ((P.funcs[f]?).map fun fn => (fn.name == "runtime.NumGoroutine", fn.body.isNone)) = some (false, false)) (args : Array Value) (w : World) :
  (callFunc f args).run P w=.ok (.enter f args) w:=by
 cases hq:P.funcs[f]? with
 | none=>rw [hq] at hf;simp at hf
 | some fn =>
  rw [hq] at hf;simp only [Option.map_some,Option.some.injEq,Prod.mk.injEq] at hf
  have h1 : ¬ fn.name = "runtime.NumGoroutine" := by simpa using hf.1
  have h2:¬fn.body=none:=fun e=>by have:=hf.2;rw [e] at this;simp at this
  simp [callFunc,hq,h1,h2]
theorem exec_enter {f: FuncId} (hf : ((P.funcs[f]?).map fun fn => (fn.name == "runtime.NumGoroutine", fn.body.isNone)) = some (false, false)) (xs : Array Operand) (ts : Array TypeId) (a : Act) (args : Array Value)
  (hx:xs.map a.eval=args) (o:Oper) (ho:o.op=.call { callee:=.value (.func f),args:=xs,argTypes:=ts }) (w:World):(execOp a.eval o).run P w=.ok (.enter f args) w:=by
 subst hx;unfold execOp;rw [ho];have:=call_enter hf (xs.map a.eval) w;simp [resolve,Deferred.ofValue,Act.eval,invoke,this]
def vals (E:Env):List Operand->Option (List Value)
 | []=>some []
 | x::r=>(val E x).bind fun v=>(vals E r).map (v::·)
theorem Holds.evals (h:Holds n E a):∀ {xs:List Operand} {vs:List Value},vals E xs=some vs->xs.map a.eval=vs
 | [],vs,q=>by simp [vals] at q;simp [q]
 | x::r,vs,q=>by
  unfold vals at q;cases hx:val E x with
  | none=>simp [hx] at q
  | some v =>
   cases hr:vals E r with
   | none=>simp [hx,hr] at q
   | some us =>
    simp [hx,hr] at q;subst q;simp [h.eval hx,h.evals hr]
theorem Qp {f:FuncId} {xs:List Operand} (hc:Calls P f vs.toArray w fun e w'=>e=.returned v/\w'=w)
  (hf : ((P.funcs[f]?).map fun fn => (fn.name == "runtime.NumGoroutine", fn.body.isNone)) = some (false, false) := by kernel_rfl)
  (ho:o.op=.call { callee:=.value (.func f),args:=xs.toArray,argTypes:=ts }:=by rfl) (hx:vals E xs=some vs:=by rfl):Yields P E o w v:=fun n a ha =>
 .inr ⟨f,vs.toArray,exec_enter hf xs.toArray ts a _ (by simp [ha.evals hx]) o ho w,hc⟩
theorem lg_call {f:FuncId} {xs:List Operand} {R:Value->World->Prop} (hc:Calls P f vs.toArray w fun e w'=>∃ v,e=.returned v/\R v w')
  (hf : ((P.funcs[f]?).map fun fn => (fn.name == "runtime.NumGoroutine", fn.body.isNone)) = some (false, false))
  (ho:o.op=.call { callee:=.value (.func f),args:=xs.toArray,argTypes:=ts }) (hx:vals E xs=some vs) (hd:o.dst=some d) (hg:o.guard=none) (hn:d<n)
  (h:∀ v w',R v w'->LG P ops Q n ((d,v)::E) rest w'):LG P ops Q n E (o::rest) w:=by
 intro a ha;unfold wpList;rw [wanted_none hg,if_pos rfl];refine .inl ?_;unfold Oper.wp;rw [exec_enter hf xs.toArray ts a vs.toArray (by simp [ha.evals hx]) o ho w,Oper.upon_enter];refine hc.mono ?_;rintro e w' ⟨v,rfl,hR⟩;show wpList P ops Q rest (a.put o.dst v) w';rw [hd];exact h v w' hR _ (ha.put hn)

def RowAt (w:World) (b:Nat) (t:TypeId) (cs:Array Value):Prop:=w.heap[b]?=some (.cells cs t (0,0))
structure New (w w':World) (b:Nat) (t:TypeId) (cs:Array Value):Prop where
 blk:b=w.heap.size
 size:w'.heap.size=b+1
 row:RowAt w' b t cs
 below:Below w.heap.size w w'
structure Set1 (w w':World) (b:Nat) (t:TypeId) (cs:Array Value):Prop where
 size:w'.heap.size=w.heap.size
 row:RowAt w' b t cs
 other:∀ k,k≠b->w'.heap[k]?=w.heap[k]?
 below:∀ B,B<=b->Below B w w'
theorem RowAt.lt {b:Nat} {cs:Array Value} (h:RowAt w b t cs):b<w.heap.size:=(Array.getElem?_eq_some_iff.1 h).1
theorem New.of_alloc (t:TypeId) (cs:Array Value):New w (w.alloc (.cells cs t)) w.heap.size t cs :=
 ⟨rfl,by show (w.heap.push _).size=_;simp,heap_alloc_new w _,(Below.refl _ _).alloc (Nat.le_refl _) _⟩
theorem New.keep {b:Nat} {cs cs':Array Value} (h:New w w' b t cs) (r:RowAt w b' t' cs'):RowAt w' b' t' cs':=by
 unfold RowAt;rw [h.below.block b' r.lt];exact r
theorem Set1.keep {b:Nat} {cs cs':Array Value} (h:Set1 w w' b t cs) (r:RowAt w b' t' cs') (e:b'≠b):RowAt w' b' t' cs':=by
 unfold RowAt;rw [h.other b' e];exact r
theorem RowAt.below {b:Nat} {cs:Array Value} (h:Below B w w') (hb:b<B) (r:RowAt w b t cs):RowAt w' b t cs:=by
 unfold RowAt;rw [h.block b hb];exact r
theorem Set1.of_setRow {b:Nat} {old cs:Array Value} (h:RowAt w b t old):Set1 w (w.setRow b cs) b t cs :=
 ⟨by simp,setRow_heap w b old cs t _ h,fun k hk=>setRow_other w b k cs hk,fun B hB=>⟨rfl,rfl,rfl,by simp,fun k hk=>setRow_other w b k cs (by omega)⟩⟩
theorem lg_box {cs:Array Value} (ho:o.op=.box t x) (hx:val E x=some (.agg cs)) (hi:(P.info? t).map (·.size)=some cs.size) (hd:o.dst=some d) (hg:o.guard=none) (hn:d<n)
  (h:∀ b w',New w w' b t cs->LG P ops Q n ((d,.pointer (some ⟨b,0,none⟩))::E) rest w'):LG P ops Q n E (o::rest) w:=by
 intro a ha;unfold wpList;rw [wanted_none hg,if_pos rfl];refine .inl ?_;unfold Oper.wp;have he:(execOp a.eval o).run P w=.ok (.value (.pointer (some ⟨w.heap.size,0,none⟩))) (w.alloc (.cells cs t)):=by
  unfold execOp;rw [ho];simp only [ha.eval hx];simp [Instr.box,newVar,newRow,Value.cells]
 rw [he];show wpList P ops Q rest (a.put o.dst _) _;rw [hd];exact h _ _ (New.of_alloc t cs) _ (ha.put hn)
theorem lg_alloc {cs:Array Value} (ho:o.op=.alloc t) (hi:(P.info? t).map (fun i=>(i.zero,i.size))=some (some (.agg cs),cs.size)) (hd:o.dst=some d) (hg:o.guard=none) (hn:d<n)
  (h:∀ b w',New w w' b t cs->LG P ops Q n ((d,.pointer (some ⟨b,0,none⟩))::E) rest w'):LG P ops Q n E (o::rest) w:=by
 intro a ha;unfold wpList;rw [wanted_none hg,if_pos rfl];refine .inl ?_;unfold Oper.wp;have he:(execOp a.eval o).run P w=.ok (.value (.pointer (some ⟨w.heap.size,0,none⟩))) (w.alloc (.cells cs t)):=by
  unfold execOp;rw [ho];simp [Instr.alloc,newVar,newRow,Value.cells,(zero_of_info hi)]
 rw [he];show wpList P ops Q rest (a.put o.dst _) _;rw [hd];exact h _ _ (New.of_alloc t cs) _ (ha.put hn)
theorem lg_store_row {tr:TypeId} {y:Operand} {b:Nat} {old cs:Array Value} (hr:RowAt w b tr old) (ho:o.op=.store t x y) (hx:val E x=some (.pointer (some ⟨b,0,none⟩))) (hy:val E y=some (.agg cs))
  (hi:(P.info? t).map (·.size)=some cs.size) (hold:old.size=cs.size) (h1:cs.all (·.oneCell')=true) (hd:o.dst=none) (hg:o.guard=none)
  (h:∀ w',Set1 w w' b tr cs->LG P ops Q n E rest w'):LG P ops Q n E (o::rest) w:=fun a ha =>
 wpList_store_row hg t x y ho b cs (ha.eval hx) (ha.eval hy) tr old hr hi hold h1 (by rw [hd];exact h _ (Set1.of_setRow hr) a ha)
theorem lg_store {tr:TypeId} {y:Operand} {b:Nat} {old:Array Value} {v:Value} (hr:RowAt w b tr old) (hj:j<old.size) (hv:v.oneCell'=true) (ho:o.op=.store t x y) (hx:val E x=some (.pointer (some ⟨b,j,none⟩))) (hy:val E y=some v)
  (hi:(P.info? t).map (·.size)=some 1) (hd:o.dst=none) (hg:o.guard=none)
  (h:∀ w',Set1 w w' b tr (old.setIfInBounds j v)->LG P ops Q n E rest w'):LG P ops Q n E (o::rest) w:=by
 intro a ha;unfold wpList;rw [wanted_none hg,if_pos rfl];refine .inl ?_;unfold Oper.wp;have hc:w.cell? ⟨b,j,none⟩=some old[j]:=by rw [cell_of_row w b j old tr _ hr];simp [hj]
 have he:(execOp a.eval o).run P w=.ok .skip (w.setRow b (old.setIfInBounds j v)):=by
  unfold execOp;rw [ho];simp only [ha.eval hx,ha.eval hy,Instr.storeAt,Instr.sureAddr];have hs:(storeVar t ⟨b,j,none⟩ v).run P w=.ok () (w.setRow b (old.setIfInBounds j v)):=by
   rw [<-setCell_eq_setRow w b j old tr _ v hr];have hvc:v.cells=#[v]:=by cases v<;>first | rfl | simp [Value.oneCell'] at hv
   cases hq:P.info? t with
   | none=>simp [hq] at hi
   | some it =>
    have hz:it.size=1:=by simpa [hq] using hi
    have hadd:(⟨b,j,none⟩:Addr).add 0=⟨b,j,none⟩:=by simp [Addr.add]
    simp [storeVar,Sem.run_bind,sizeOf,typeInfo,hq,hz,hvc,storeCells,hadd,run_store P w _ v _ hv,hc,frozen_of_row w b j old tr hr]
  simp [hs]
 rw [he];show wpList P ops Q rest (a.put o.dst undef) _;rw [hd];exact h _ (Set1.of_setRow hr) a ha
theorem y_build {parts:Array (Nat × Operand)} {cs:Array Value} (ho:o.op=.build t parts:=by rfl) (hx:vals E (parts.toList.map (·.2))=some vs:=by rfl) (hb:P.built t ((parts.toList.map (·.1)).zip vs)=some cs:=by kernel_rfl):Yields P E o w (.agg cs):=fun n a ha=>.inl (by
 unfold execOp;rw [ho];have e:(parts.map fun (i,x)=>(i,a.eval x)).toList=(parts.toList.map (·.1)).zip vs:=by
  rw [<-ha.evals hx];rw [List.map_map,List.zip_map',Array.toList_map];rfl
 rw [Sem.run_bind,run_build w t _ cs (by rw [e];exact hb)];rfl)
theorem cg_loop {c:Code} (I:Nat->Act->World->Prop) (N:Nat) (h0:I 0 a w) (round:∀ t a w,t<=N->I t a w->c.wp P (Exit.then (fun a' w'=>t<N/\I (t+1) a' w') Q) a w):(Code.loop c).wp P Q a w:=by
 refine wp_loop_rounds (N+1) ?_;have key:∀ k t a w,t+k=N->I t a w->Code.rounds P c Q (k+1) a w:=by
  intro k;induction k with
  | zero =>
   intro t a w ht hI;refine Code.wp_mono (fun e a w q=>?_) (round t a w (by omega) hI);cases e<;>first | exact q | (have:=q.1;omega)
  | succ k ih =>
   intro t a w ht hI;refine Code.wp_mono (fun e a w q=>?_) (round t a w (by omega) hI);cases e<;>first | exact ih (t+1) _ _ (by omega) q.2 | exact q
 exact key N 0 a w (by omega) h0
theorem fk {v:Value} {r:Env} (h:look E k=some v) (hr:∀ p∈r,look E p.1=some p.2):∀ p∈(k,v)::r,look E p.1=some p.2:=by
 intro p hp;rcases List.mem_cons.1 hp with rfl | h'
 ·exact h
 exact hr p h'
theorem cg_at {c:Code} (ha:Holds n E a) (h:CG P Q n E c w):c.wp P Q a w:=h a ha
theorem nxb {id:Nat} {E':Env} {y:Code} (hE:∀ p∈E',look E p.1=some p.2) (h:CG P Q n E' y w):∀ a,Holds n E a->Exit.inBlock id (Exit.then (y.wp P Q) Q') .normal a w:=fun a ha=>h a (ha.keep hE)
theorem sg_lg (h:LG P ops Q n E rest w):SG P ops (fun a=>wpList P ops Q rest a w) n E [] w:=h
theorem fn:∀ p∈([]:Env),look E p.1=some p.2:=by simp
theorem nx {E':Env} {y:Code} (hE:∀ p∈E',look E p.1=some p.2) (h:CG P Q n E' y w):∀ a,Holds n E a->Exit.then (y.wp P Q) Q' .normal a w:=fun a ha=>h a (ha.keep hE)
theorem ex_out {id:Nat} {K1 K2:Act->World->Prop} (h:∀ a,Holds n E a->Q .normal a w):∀ a,Holds n E a->Exit.then K1 (Exit.then K2 (Exit.inBlock id Q)) (.exit id) a w:=fun a ha=>by
 show (if id=id then _ else _);rw [if_pos rfl];exact h a ha
theorem Qf {f:FuncId} {fn:Func} {c:Code} (hf:P.funcs[f]?=some fn) (hb:fn.body=some c) (hn:fn.ntmps=n) (hl:vs.length<=n)
  (h:CG P (bodyPost P fn R) n ((List.range vs.length).zip vs) c w):Calls P f vs.toArray w R:=by
 refine calls_of_wp hf hb (h _ ?_);refine ⟨by simp [hn];omega,rfl,fun d v q=>?_⟩;have key:∀ (us:List Value) (k:Nat),look ((List.range' k us.length).zip us) d=some v->k<=d/\us[d-k]?=some v:=by
  intro us;induction us with
  | nil=>intro k q;simp [look] at q
  | cons u us ih =>
   intro k q;simp only [List.length_cons,List.range'_succ,List.zip_cons_cons] at q;unfold look at q;by_cases e:k=d
   ·subst e;simp at q;simp [q]
   have:Nat.beq k d=false:=by
    rw [Bool.eq_false_iff];intro q;exact e (Nat.eq_of_beq_eq_true q)
   rw [this] at q;obtain ⟨h1,h2⟩:=ih (k+1) q;refine ⟨by omega,?_⟩;rw [show d-k=(d-(k+1))+1 by omega];simpa using h2
 have:=key vs 0 (by simpa [List.range_eq_range'] using q);have h2:vs[d]?=some v:=by simpa using this.2
 have hlt:d<vs.length:=(List.getElem?_eq_some_iff.1 h2).1;show (vs.toArray++_)[d]?=_;rw [Array.getElem?_append_left (by simpa using hlt)];simpa using h2
theorem ret_row {fn:Func} {p:Tmp} {ty:TypeId} {b:Nat} {cs:Array Value} (h:fn.results=#[.cell p ty]) (hp:look E p=some (.pointer (some ⟨b,0,none⟩))) (hr:RowAt w b t cs)
  (hu:P.underlying ty=some (.array m e)) (hi:(P.info? ty).map (·.size)=some cs.size) (hR:R (.returned (.agg cs)) w):CG P (bodyPost P fn R) n E .ret w :=
 cg_ret fun a ha=>bodyPost_ret (results_cell_row h a.tmps w b t cs _ _ (by have:=ha.2.2 p _ hp;simp [this]) hr hu rfl hi) ha.2.1 hR
end
/- WkB:
  Rules for words, octets, whole numbers, rows; operations under a guard; regions with calls that make memory.
-/
abbrev wv (x:BitVec 32):Value:=.int .u32 (vw x)
abbrev ov (x:BitVec 8):Value:=.int .u8 (vb x)
abbrev iv (n:Nat):Value:=.int .i64 (n:Int)
abbrev pv (b j:Nat):Value:=.pointer (some ⟨b,j,none⟩)
def cW (n:Nat) (F:Nat->BitVec 32):Array Value:=((List.range n).map fun i=>wv (F i)).toArray
def cB (n:Nat) (F:Nat->BitVec 8):Array Value:=((List.range n).map fun i=>ov (F i)).toArray
def upd {α:Type} (F:Nat->α) (t:Nat) (x:α):Nat->α:=fun i=>if i=t then x else F i
theorem cW_get {n:Nat} {F:Nat->BitVec 32} (h:j<n):(cW n F)[j]?=some (wv (F j)):=by simp [cW,h]
theorem cB_get {n:Nat} (h:j<n):(cB n F)[j]?=some (ov (F j)):=by simp [cB,h]
theorem cW_size (n:Nat) (F:Nat->BitVec 32):(cW n F).size=n:=by simp [cW]
theorem cB_size (n:Nat) (F:Nat->BitVec 8):(cB n F).size=n:=by simp [cB]
theorem cW_one (n:Nat) (F:Nat->BitVec 32):(cW n F).all (·.oneCell')=true:=by simp [cW,wv,Value.oneCell']
theorem cW_ext {n:Nat} {F G:Nat->BitVec 32} (h:∀ i,i<n->F i=G i):cW n F=cW n G:=by
 unfold cW;refine congrArg _ (List.map_congr_left fun i hi=>?_);rw [h i (by simpa using hi)]
theorem cW_set {n t:Nat} {F:Nat->BitVec 32} {x:BitVec 32}:(cW n F).setIfInBounds t (wv x)=cW n (upd F t x):=by
 refine Array.ext_getElem? fun i=>?_;rw [Array.getElem?_setIfInBounds];by_cases e:t=i
 ·subst e;by_cases h:t<n
  ·rw [if_pos rfl,if_pos (by rw [cW_size];exact h),cW_get h];simp [upd]
  simp [cW,h]
 rw [if_neg e];by_cases h:i<n
 ·rw [cW_get h,cW_get h];simp [upd,Ne.symm e]
 simp [cW,h]
theorem cB_set {n t:Nat} {x:BitVec 8}:(cB n F).setIfInBounds t (ov x)=cB n (upd F t x):=by
 refine Array.ext_getElem? fun i=>?_;rw [Array.getElem?_setIfInBounds];by_cases e:t=i
 ·subst e;by_cases h:t<n
  ·rw [if_pos rfl,if_pos (by rw [cB_size];exact h),cB_get h];simp [upd]
  simp [cB,h]
 rw [if_neg e];by_cases h:i<n
 ·rw [cB_get h,cB_get h];simp [upd,Ne.symm e]
 simp [cB,h]
theorem wrap_i64 {n:Int} (h0:-9223372036854775808<=n) (h1:n<9223372036854775808):IntKind.i64.wrap n=n:=by
 unfold IntKind.wrap;simp [IntKind.bits,IntKind.signed];split<;>omega

section
variable {P:Program} {E:Env} {o:Oper} {w:World} {x y:Operand} {t t':TypeId} {X Y:BitVec 32}
theorem y_add (ho:o.op=.binOp .add t x y t':=by rfl) (hx:val E x=some (wv X):=by rfl) (hy:val E y=some (wv Y):=by rfl):Yields P E o w (wv (X+Y)) :=
 y_bin (fun x y w=>by show Result.ok (Value.int .u32 (IntKind.u32.wrap (vw X+vw Y))) w=_;rw [u_add]) ho hx hy
theorem y_xor (ho:o.op=.binOp .xor t x y t':=by rfl) (hx:val E x=some (wv X):=by rfl) (hy:val E y=some (wv Y):=by rfl):Yields P E o w (wv (X ^^^ Y)) :=
 y_bin (fun x y w=>by show Result.ok (Value.int .u32 (bits .xor .u32 (vw X) (vw Y))) w=_;rw [u_xor]) ho hx hy
theorem y_shr (k:Nat) (yk:IntKind) (hk:k<32:=by decide) (ho:o.op=.binOp .shr t x y t':=by rfl) (hx:val E x=some (wv X):=by rfl) (hy:val E y=some (.int yk (k:Int)):=by rfl):Yields P E o w (wv (X >>> k)) :=
 y_bin (fun x y w=>by show (Op.shift .shr .u32 (vw X) yk (k:Nat)).run P w=_;rw [u_shr P X k hk]) ho hx hy
-- whole numbers, none of them below 0
theorem y_iadd (r s:Nat) (h:r+s<9223372036854775808) (ho:o.op=.binOp .add t x y t':=by rfl) (hx:val E x=some (iv r):=by rfl) (hy:val E y=some (iv s):=by rfl):Yields P E o w (iv (r+s)) :=
 y_bin (fun x y w=>by show Result.ok (Value.int .i64 (IntKind.i64.wrap ((r:Int)+(s:Int)))) w=_;rw [wrap_i64 (by omega) (by omega)];rfl) ho hx hy
theorem y_imul (r s:Nat) (h:r*s<9223372036854775808) (ho:o.op=.binOp .mul t x y t':=by rfl) (hx:val E x=some (iv r):=by rfl) (hy:val E y=some (iv s):=by rfl):Yields P E o w (iv (r*s)) :=
 y_bin (fun x y w=>by
  show Result.ok (Value.int .i64 (IntKind.i64.wrap ((r:Int)*(s:Int)))) w=_;rw [<-Int.natCast_mul,wrap_i64 (by omega) (by omega)]) ho hx hy
theorem y_isub (r s:Nat) (h:s<=r) (h':r<9223372036854775808) (ho:o.op=.binOp .sub t x y t':=by rfl) (hx:val E x=some (iv r):=by rfl) (hy:val E y=some (iv s):=by rfl):Yields P E o w (iv (r-s)) :=
 y_bin (fun x y w=>by
  show Result.ok (Value.int .i64 (IntKind.i64.wrap ((r:Int)-(s:Int)))) w=_;rw [<-Int.natCast_sub h,wrap_i64 (by omega) (by omega)]) ho hx hy
theorem y_ilss (r s:Nat) (ho:o.op=.binOp .lss t x y t':=by rfl) (hx:val E x=some (iv r):=by rfl) (hy:val E y=some (iv s):=by rfl):Yields P E o w (.bool (decide (r<s))) :=
 y_bin (fun x y w=>by
  show Result.ok (Value.bool (decide ((r:Int)<(s:Int)))) w=_;refine congrArg (fun b=>Result.ok (Value.bool b) w) ?_;exact decide_eq_decide.2 (by omega)) ho hx hy
-- places
theorem y_ixa {b len:Nat} {el:TypeId} (hu:P.underlying t=some (.array len el)) (hs:(P.info? el).map (·.size)=some 1) (hj:j<len) (ho:o.op=.indexAddr t x y:=by rfl) (hx:val E x=some (pv b 0):=by rfl) (hy:val E y=some (iv j):=by rfl):Yields P E o w (pv b j) :=
 y_ix (by
  cases hq:P.info? el with
  | none=>simp [hq] at hs
  | some i =>
   have hz:i.size=1:=by simpa [hq] using hs
   simp [Instr.indexAt,asIntOf,run_underlying hu,Instr.sureAddr,sizeOf,typeInfo,hq,hz,hj,Addr.add];exact fun e=>e.symm) ho hx hy
theorem y_cell {b:Nat} {tr:TypeId} {cs:Array Value} {v:Value} {k:IntKind} (hr:RowAt w b tr cs) (hj:cs[j]?=some v) (hu:P.underlying t=some (.int k)) (ho:o.op=.load t x:=by rfl) (hx:val E x=some (pv b j):=by rfl):Yields P E o w v :=
 y_load (by
  have hc:w.cell? ⟨b,j,none⟩=some v:=by rw [cell_of_row w b j cs tr _ hr,hj]
  simp [loadVar,isAgg,run_underlying hu,hc]) ho hx
theorem y_row {b:Nat} {tr:TypeId} {cs:Array Value} (hr:RowAt w b tr cs) (hu:P.underlying t=some (.array m e)) (hi:(P.info? t).map (·.size)=some cs.size) (ho:o.op=.load t x:=by rfl) (hx:val E x=some (pv b 0):=by rfl):Yields P E o w (.agg cs) :=
 y_load (run_loadVar_row w b tr t cs _ _ hr hu rfl hi) ho hx
theorem y_idx {len:Nat} {el:TypeId} {cs:Array Value} {v:Value} {k:IntKind} (hu:P.underlying t=some (.array len el)) (hs:(P.info? el).map (·.size)=some 1) (hk:P.underlying el=some (.int k)) (hj:j<len) (hv:cs[j]?=some v) (ho:o.op=.index t x y:=by rfl) (hx:val E x=some (.agg cs):=by rfl) (hy:val E y=some (iv j):=by rfl):Yields P E o w v :=
 y_index (by
  cases hq:P.info? el with
  | none=>simp [hq] at hs
  | some i =>
   have hz:i.size=1:=by simpa [hq] using hs
   simp [Instr.index,asIntOf,run_underlying hu,sizeOf,typeInfo,hq,hz,hj,part,isAgg,run_underlying hk,hv]) ho hx hy
end
section
variable {P:Program} {ops:Array Oper} {Q:Exit->Act->World->Prop} {n d:Nat} {E:Env} {o:Oper} {rest:List Oper} {w w0:World} {v:Value} {x y:Operand} {t t':TypeId}

def Want (ops:Array Oper) (E:Env) (o:Oper) (c:Bool):Prop:=∀ n a,Holds n E a->Region.wanted o (yielded ops a.tmps)=c
theorem Qb (hg:o.guard=none):Want ops E o true:=fun n a ha=>wanted_none hg _
theorem Wn (hg:o.guard=none:=by rfl):Want ops E o true:=Qb hg
theorem dF {p:Prop} [Decidable p] (h:¬p):decide p=false:=decide_eq_false h
theorem dT {p:Prop} [Decidable p] (h:p):decide p=true:=decide_eq_true h
theorem want_some {dj:Nat} {b c:Bool} (hg:o.guard=some (j,b)) (hj:(ops[j]?).bind (·.dst)=some dj) (hy:look E dj=some (.bool c)):Want ops E o (c == b):=fun n a ha=>by
 have h1:a.tmps[dj]?=some (.bool c):=ha.2.2 _ _ hy;have h2:yielded ops a.tmps j=some c:=by
  unfold yielded;rw [hj];simp [h1]
 unfold Region.wanted;rw [hg];simp [h2]
theorem want_t {dj:Nat} {b:Bool} (hg:o.guard=some (j,b)) (hj:(ops[j]?).bind (·.dst)=some dj) (hy:look E dj=some (.bool b)):Want ops E o true:=by
 have h:=want_some (o:=o) hg hj hy;simpa using h
theorem want_f {dj:Nat} {b:Bool} (hg:o.guard=some (j,b)) (hj:(ops[j]?).bind (·.dst)=some dj) (hy:look E dj=some (.bool (!b))):Want ops E o false:=by
 have h:=want_some (o:=o) hg hj hy;simpa using h
theorem want_u {dj:Nat} {b:Bool} (hg:o.guard=some (j,b)) (hj:(ops[j]?).bind (·.dst)=some dj) (hy:look E dj=some undef):Want ops E o false:=fun n a ha=>by
 have h1:a.tmps[dj]?=some undef:=ha.2.2 _ _ hy;have h2:yielded ops a.tmps j=none:=by
  unfold yielded;rw [hj];simp [h1,undef]
 unfold Region.wanted;rw [hg];simp [h2]
theorem lsw (hw:Want ops E o true) (y:Yields P E o w v) (hd:o.dst=some d) (hn:d<n) (h:LG P ops Q n ((d,v)::E) rest w):LG P ops Q n E (o::rest) w:=by
 intro a ha;have h':=h _ (ha.put (v:=v) hn);rw [<-hd] at h';unfold wpList;rw [hw n a ha,if_pos rfl];refine .inl ?_;unfold Oper.wp;rcases y n a ha with hy | ⟨f,args,hy,hc⟩
 ·rw [hy];exact h'
 rw [hy,Oper.upon_enter];refine hc.mono ?_;rintro e w' ⟨rfl,rfl⟩;exact h'
theorem lsk (hw:Want ops E o false) (hd:o.dst=some d) (hn:d<n) (h:LG P ops Q n ((d,undef)::E) rest w):LG P ops Q n E (o::rest) w:=by
 intro a ha;have h':=h _ (ha.put (v:=undef) hn);rw [<-hd] at h';unfold wpList;rw [hw n a ha,if_neg (by simp)];exact h'
theorem stw {Q:Act->Prop} (hw:Want ops E o true) (y:Yields P E o w v) (hd:o.dst=some d) (hn:d<n) (h:SG P ops Q n ((d,v)::E) rest w):SG P ops Q n E (o::rest) w:=by
 intro a ha;have h':=h _ (ha.put (v:=v) hn);rw [<-hd] at h';unfold wpStill;rw [hw n a ha,if_pos rfl];unfold Oper.still;rcases y n a ha with hy | ⟨f,args,hy,hc⟩
 ·rw [hy];exact ⟨rfl,h'⟩
 rw [hy];exact ⟨rfl,v,hc,h'⟩
theorem stk {Q:Act->Prop} (hw:Want ops E o false) (hd:o.dst=some d) (hn:d<n) (h:SG P ops Q n ((d,undef)::E) rest w):SG P ops Q n E (o::rest) w:=by
 intro a ha;have h':=h _ (ha.put (v:=undef) hn);rw [<-hd] at h';unfold wpStill;rw [hw n a ha,if_neg (by simp)];exact h'
theorem y_pick {c:Operand} (b:Bool) (ho:o.op=.pick c x y:=by rfl) (hc:val E c=some (.bool b):=by rfl) (hv:val E (if b then x else y)=some v:=by rfl):Yields P E o w v:=fun n a ha=>.inl (by
 unfold execOp;rw [ho];have h1:=ha.eval hc;have h2:=ha.eval hv;cases b<;>simp_all [asBool])
theorem y_conv_u {k:IntKind} {ks:IntKind} {m:Int} {ds:TypeDesc} (hs:P.underlying t=some ds:=by kernel_rfl) (hu:P.underlying t'=some (.int k):=by kernel_rfl) (ho:o.op=.convert t t' x:=by rfl) (hx:val E x=some (.int ks m):=by rfl):Yields P E o w (.int k (k.wrap m)) :=
 y_conv (fun w=>by simp [convert,run_underlying hs,run_underlying hu,Conv.intToInt]) ho hx
theorem y_beq {a b:Bool} (hu:P.underlying t=some .bool) (ho:o.op=.binOp .eql t x y t':=by rfl) (hx:val E x=some (.bool a):=by rfl) (hy:val E y=some (.bool b):=by rfl):Yields P E o w (.bool (a == b)) :=
 y_bin (fun x y w=>by
  show (do let r <-Op.equal t (.bool a) (.bool b);pure (Value.bool r):Sem Value).run P w=_;rw [Sem.run_bind];unfold Op.equal;rw [show Op.maxDepth=9999+1 from rfl,run_equalIn_bool _ 9999 t a b hu];rfl) ho hx hy
theorem lg_bslice {el:TypeId} {len:Nat} {parts:Array (Nat × Operand)} {z:Value} {cs:Array Value} (hu:P.underlying t=some (.slice el)) (hz:(P.info? el).map (fun i=>(i.zero,i.size))=some (some z,1)) (hl:0<len) (hl':len<=1000)
  (ho:o.op=.buildSlice t len parts) (hx:vals E (parts.toList.map (·.2))=some vs) (hf:Instr.fill (fun i=>some (i*1,1)) ((Array.range (len*1)).map (fun k=>z.cells[k % z.cells.size]!)) ((parts.toList.map (·.1)).zip vs)=some cs)
  (hd:o.dst=some d) (hg:o.guard=none) (hn:d<n)
  (h:∀ b w',New w w' b el cs->LG P ops Q n ((d,.slice (some ⟨b,0,none⟩) len len)::E) rest w'):LG P ops Q n E (o::rest) w:=by
 intro a ha;unfold wpList;rw [wanted_none hg,if_pos rfl];refine .inl ?_;unfold Oper.wp;have e:(parts.map fun (i,x)=>(i,a.eval x)).toList=(parts.toList.map (·.1)).zip vs:=by
  rw [<-ha.evals hx];rw [List.map_map,List.zip_map',Array.toList_map];rfl
 have he:(execOp a.eval o).run P w=.ok (.value (.slice (some ⟨w.heap.size,0,none⟩) len len)) (w.alloc (.cells cs el)):=by
  unfold execOp;rw [ho];have hzz:=zero_of_info hz;cases hq:P.info? el with
  | none=>simp [hq] at hz
  | some it =>
   have hs1:it.size=1:=by simpa [hq] using hzz.2
   have h0:¬len=0:=by omega
   have h16:¬16777216<len:=by omega
   simp only [Instr.buildSlice,e];simp only [Nat.mul_one] at hf;simp [run_underlying hu,sizeOf,typeInfo,hq,hs1,h0,h16,hzz.1,hf,newRow]
 rw [he];show wpList P ops Q rest (a.put o.dst _) _;rw [hd];exact h _ _ (New.of_alloc el cs) _ (ha.put hn)

-- regions with calls that make memory
def Keeps (w:World):World->Prop:=fun w'=>Below w.heap.size w w'
def HG (P:Program) (ops:Array Oper) (Q:Exit->Act->World->Prop) (w0:World) (n fuel:Nat) (listed:Array Bool) (E:Env) (w:World):Prop:=∀ a,Holds n E a->wpAnyH P .any ops Q (Keeps w0) fuel listed a w
theorem cg_held {id:Nat} {l:List Oper} (hm:P.follows .mixedOrders=true) (h:∀ W,W=w.drew->HG P l.toArray Q W n l.toArray.size (Array.replicate l.toArray.size false) E W):CG P Q n E (.region id l.toArray true) w:=fun a ha =>
 wp_region_held_drew (S:=Keeps w.drew) hm (Below.refl _ _) (fun _=>h _ rfl a ha)
def isVal:Op->Bool
 | .move _ | .assign _ | .load _ _ | .binOp _ _ _ _ _ | .pick _ _ _ | .indexAddr _ _ _ | .unOp _ _ _ | .convert _ _ _ | .slice _ _ _ _ _ | .fieldAddr _ _ _ | .field _ _ _ | .index _ _ _ | .build _ _ | .makeFunc _ _ _=>true
 | .call c=>match c.callee with | .builtin .len=>true | _=>false
 | _=>false
theorem val_of (hv:isVal o.op=true) {f:FuncId} {args:Array Value}:(execOp a.eval o).run P w≠.ok (.enter f args) w':=by
 have key:∀ s:Sem Value,((do pure (Next.value (<-s)):Sem Next)).run P w≠.ok (.enter f args) w':=by
  intro s;rw [Sem.run_bind];cases s.run P w<;>simp
 unfold execOp;cases ho:o.op<;>rw [ho] at hv<;>first | (simp [isVal] at hv;done) | (simp;done) | exact key _ | skip
 case pick c x y =>
  simp only [];rw [Sem.run_bind];cases (asBool (a.eval c)).run P w<;>simp
 case call c =>
  obtain ⟨callee,args,ats⟩:=c;cases callee with
  | builtin b =>
   cases b<;>first | (simp [isVal] at hv;done) | skip
   exact key _
  | _=>simp [isVal] at hv
theorem hg_take {fuel:Nat} {listed:Array Bool} (i:Nat) (ho:ops[i]?=some o) (hw:Want ops E o true) (hv:isVal o.op=true) (hd:o.dst=some d) (hn:d<n)
  (hs:Region.noSelect ops=true) (hf:Region.free .any ops listed i=true) (hr:(Region.ready .any ops listed).contains i=true)
  (hQ:∀ c a w,Q (.panic c) (a.put (some d) v) w->Q (.panic c) a w) (hb:Below w0.heap.size w0 w) (y:∀ w',Below w0.heap.size w0 w'->Yields P E o w' v)
  (h:HG P ops Q w0 n fuel (listed.setIfInBounds i true) ((d,v)::E) w):HG P ops Q w0 n (fuel+1) listed E w:=by
 intro a ha;have h':=h _ (ha.put (v:=v) hn);rw [<-hd] at h' hQ;refine wpAnyH_take (i:=i) (oi:=o) (v:=v) ho hs hf hr hQ (.inl ⟨hw n a ha,fun w' hS=>?_⟩) hb h';rcases y w' hS n a ha with hy | ⟨f,args,hy,hc⟩
 ·exact hy
 exact absurd hy (val_of hv)
theorem hg_takev {fuel:Nat} {listed:Array Bool} (i:Nat) (ho:ops[i]?=some o) (hw:Want ops E o true) (hd:o.dst=some d) (hn:d<n)
  (hs:Region.noSelect ops=true) (hf:Region.free .any ops listed i=true) (hr:(Region.ready .any ops listed).contains i=true)
  (hQ:∀ c a w,Q (.panic c) (a.put (some d) v) w->Q (.panic c) a w) (hb:Below w0.heap.size w0 w) (y:∀ w' n a,Holds n E a->(execOp a.eval o).run P w'=.ok (.value v) w')
  (h:HG P ops Q w0 n fuel (listed.setIfInBounds i true) ((d,v)::E) w):HG P ops Q w0 n (fuel+1) listed E w:=by
 intro a ha;have h':=h _ (ha.put (v:=v) hn);rw [<-hd] at h' hQ;exact wpAnyH_take (i:=i) (oi:=o) (v:=v) ho hs hf hr hQ (.inl ⟨hw n a ha,fun w' hS=>y w' n a ha⟩) hb h'
theorem v_nilc {p:Addr} (ho:o.op=.nilCheck x) (hx:val E x=some (.pointer (some p))) (w:World) (n:Nat) (a:Act) (ha:Holds n E a):(execOp a.eval o).run P w=.ok (.value (.pointer (some p))) w:=by
 unfold execOp;rw [ho];simp only [ha.eval hx];rfl
theorem hg_skip {fuel:Nat} {listed:Array Bool} (i:Nat) (ho:ops[i]?=some o) (hw:Want ops E o false) (hd:o.dst=some d) (hn:d<n)
  (hs:Region.noSelect ops=true) (hf:Region.free .any ops listed i=true) (hr:(Region.ready .any ops listed).contains i=true)
  (hQ:∀ c a w,Q (.panic c) (a.put (some d) undef) w->Q (.panic c) a w) (hb:Below w0.heap.size w0 w)
  (h:HG P ops Q w0 n fuel (listed.setIfInBounds i true) ((d,undef)::E) w):HG P ops Q w0 n (fuel+1) listed E w:=by
 intro a ha;have h':=h _ (ha.put (v:=undef) hn);rw [<-hd] at h' hQ;exact wpAnyH_take (i:=i) (oi:=o) (v:=undef) ho hs hf hr hQ (.inr ⟨hw n a ha,rfl⟩) hb h'
theorem hg_skip1 {fuel:Nat} {listed:Array Bool} (i:Nat) (hb:Below w0.heap.size w0 w) (ho:ops[i]?=some o) (hw:Want ops E o false) (hd:o.dst=some d) (hn:d<n) (hr:Region.ready .any ops listed=[i])
  (h:HG P ops Q w0 n fuel (listed.setIfInBounds i true) ((d,undef)::E) w):HG P ops Q w0 n (fuel+1) listed E w:=by
 intro a ha;refine wpAnyH_all hr (by simp) fun j hj=>?_;obtain rfl:j=i:=by simpa using hj
 unfold wpOp;simp only [ho,hw n a ha,Bool.false_eq_true,if_false];rw [hd];exact ⟨hb,h _ (ha.put hn)⟩
theorem op_of_lg {K:Act->World->Prop} (i:Nat) (ho:ops[i]?=some o) (hw:Want ops E o true) (ha:Holds n E a) (h:LG P ops (Exit.then K Q) n E [o] w):wpOp P ops Q i K a w:=by
 have h':=h a ha;unfold wpList at h';rw [hw n a ha,if_pos rfl] at h';unfold wpOp;simp only [ho,hw n a ha,if_true];rcases h' with h' | h'
 ·refine .inl ?_;unfold Oper.wp at *;generalize (execOp a.eval o).run P w=r at *;cases r with
  | ok nx w' =>
   cases nx<;>simp only [Oper.upon] at h' ⊢<;>first | exact h' | skip
   all_goals
    refine h'.mono ?_;intro e w'' q;first | exact q | (cases e<;>first | exact q | (obtain ⟨a1,w1,q1⟩:=q;exact ⟨a1,w1,q1⟩))
  | halt x w'=>cases x<;>exact h'
 refine .inr ⟨h'.1,?_⟩;obtain ⟨a1,w1,q1⟩:=h'.2;exact ⟨a1,w1,q1⟩
theorem hg_one {fuel:Nat} {listed:Array Bool} (i:Nat) (ho:ops[i]?=some o) (hr:Region.ready .any ops listed=[i]) (hw:Want ops E o true)
  (h:LG P ops (Exit.then (fun a w'=>Keeps w0 w'/\wpAnyH P .any ops Q (Keeps w0) fuel (listed.setIfInBounds i true) a w') Q) n E [o] w):HG P ops Q w0 n (fuel+1) listed E w:=by
 intro a ha;refine wpAnyH_all hr (by simp) fun j hj=>?_;obtain rfl:j=i:=by simpa using hj
 exact op_of_lg j ho hw ha h
theorem hg_two {fuel:Nat} {listed:Array Bool} (i j:Nat) (ho:ops[i]?=some o) (ho':ops[j]?=some o') (hr:Region.ready .any ops listed=[i,j]) (hw:Want ops E o true) (hw':Want ops E o' true)
  (h:LG P ops (Exit.then (fun a w'=>Keeps w0 w'/\wpAnyH P .any ops Q (Keeps w0) fuel (listed.setIfInBounds i true) a w') Q) n E [o] w)
  (h':LG P ops (Exit.then (fun a w'=>Keeps w0 w'/\wpAnyH P .any ops Q (Keeps w0) fuel (listed.setIfInBounds j true) a w') Q) n E [o'] w):HG P ops Q w0 n (fuel+1) listed E w:=by
 intro a ha;refine wpAnyH_all hr (by simp) fun k hk=>?_;rcases (by simpa using hk:k=i\/k=j) with rfl | rfl
 ·exact op_of_lg k ho hw ha h
 exact op_of_lg k ho' hw' ha h'
theorem cg_cut {c c':Code} (J:World->Env->Prop) (hx:CG P (Exit.then (fun a v=>∃ E',J v E'/\Holds n E' a) Q) n E c w) (hy:∀ v E',J v E'->CG P Q n E' c' v):CG P Q n E (.seq c c') w:=fun a ha =>
 wp_seq (Code.wp_mono (fun e a v q=>by
  cases e<;>first | exact q | (obtain ⟨E',h1,h2⟩:=q;exact hy v E' h1 a h2)) (hx a ha))
theorem hg_next {fuel:Nat} {listed:Array Bool} {i:Nat} (hb:Below w0.heap.size w0 w) (h:HG P ops Q w0 n fuel (listed.setIfInBounds i true) E w):LG P ops (Exit.then (fun a w'=>Keeps w0 w'/\wpAnyH P .any ops Q (Keeps w0) fuel (listed.setIfInBounds i true) a w') Q) n E [] w :=
 fun a ha=>⟨hb,h a ha⟩
theorem hg_done {fuel:Nat} {listed:Array Bool} (hr:Region.ready .any ops listed=[]) (h:∀ a,Holds n E a->Q .normal a w):HG P ops Q w0 n fuel listed E w:=fun a ha=>wpAnyH_done hr (h a ha) fuel
theorem lg_callw {f:FuncId} {xs:List Operand} {R:Value->World->Prop} (hw:Want ops E o true) (hc:Calls P f vs.toArray w fun e w'=>∃ v,e=.returned v/\R v w')
  (hf : ((P.funcs[f]?).map fun fn => (fn.name == "runtime.NumGoroutine", fn.body.isNone)) = some (false, false))
  (ho:o.op=.call { callee:=.value (.func f),args:=xs.toArray,argTypes:=ts }) (hx:vals E xs=some vs) (hd:o.dst=some d) (hn:d<n)
  (h:∀ v w',R v w'->LG P ops Q n ((d,v)::E) rest w'):LG P ops Q n E (o::rest) w:=by
 intro a ha;unfold wpList;rw [hw n a ha,if_pos rfl];refine .inl ?_;unfold Oper.wp;rw [exec_enter hf xs.toArray ts a vs.toArray (by simp [ha.evals hx]) o ho w,Oper.upon_enter];refine hc.mono ?_;rintro e w' ⟨v,rfl,hR⟩;show wpList P ops Q rest (a.put o.dst v) w';rw [hd];exact h v w' hR _ (ha.put hn)
end
theorem hubo:Tryz.prog.underlying 4=some .bool:=by kernel_rfl
/- WkI:
  Rules for whole numbers of either sign, fields, calls, functions as values: they name no type.
-/
section
variable {P:Program} {ops:Array Oper} {Q:Exit->Act->World->Prop} {n d:Nat} {E:Env} {o:Oper} {rest:List Oper} {w w0:World} {v:Value} {x y:Operand} {t t':TypeId}

abbrev nv (k:Int):Value:=.int .i64 k
theorem yb {b c:Bool} (h:b=c) (y:Yields P E o w (.bool b)):Yields P E o w (.bool c):=h▸y
theorem yv (h:u=v) (y:Yields P E o w u):Yields P E o w v:=h▸y
theorem yi_add {r s:Int} (ho:o.op=.binOp .add t x y t') (hx:val E x=some (nv r)) (hy:val E y=some (nv s)) (h0:-9223372036854775808<=r+s) (h1:r+s<9223372036854775808):Yields P E o w (nv (r+s)) :=
 y_bin (fun x y w=>by show Result.ok (Value.int .i64 (IntKind.i64.wrap (r+s))) w=_;rw [wrap_i64 h0 h1]) ho hx hy
theorem yi_sub {r s:Int} (ho:o.op=.binOp .sub t x y t') (hx:val E x=some (nv r)) (hy:val E y=some (nv s)) (h0:-9223372036854775808<=r-s) (h1:r-s<9223372036854775808):Yields P E o w (nv (r-s)) :=
 y_bin (fun x y w=>by show Result.ok (Value.int .i64 (IntKind.i64.wrap (r-s))) w=_;rw [wrap_i64 h0 h1]) ho hx hy
theorem yi_mul {r s:Int} (ho:o.op=.binOp .mul t x y t') (hx:val E x=some (nv r)) (hy:val E y=some (nv s)) (h0:-9223372036854775808<=r*s) (h1:r*s<9223372036854775808):Yields P E o w (nv (r*s)) :=
 y_bin (fun x y w=>by show Result.ok (Value.int .i64 (IntKind.i64.wrap (r*s))) w=_;rw [wrap_i64 h0 h1]) ho hx hy
theorem yi_lss {r s:Int} (ho:o.op=.binOp .lss t x y t':=by rfl) (hx:val E x=some (nv r):=by rfl) (hy:val E y=some (nv s):=by rfl):Yields P E o w (.bool (decide (r<s))) :=
 y_bin (fun x y w=>rfl) ho hx hy
theorem yi_leq {r s:Int} (ho:o.op=.binOp .leq t x y t':=by rfl) (hx:val E x=some (nv r):=by rfl) (hy:val E y=some (nv s):=by rfl):Yields P E o w (.bool (decide (r<=s))) :=
 y_bin (fun x y w=>rfl) ho hx hy
theorem yi_gtr {r s:Int} (ho:o.op=.binOp .gtr t x y t':=by rfl) (hx:val E x=some (nv r):=by rfl) (hy:val E y=some (nv s):=by rfl):Yields P E o w (.bool (decide (s<r))) :=
 y_bin (fun x y w=>rfl) ho hx hy
theorem yi_geq {r s:Int} (ho:o.op=.binOp .geq t x y t':=by rfl) (hx:val E x=some (nv r):=by rfl) (hy:val E y=some (nv s):=by rfl):Yields P E o w (.bool (decide (s<=r))) :=
 y_bin (fun x y w=>rfl) ho hx hy
theorem yi_eql {r s:Int} (ho:o.op=.binOp .eql t x y t':=by rfl) (hx:val E x=some (nv r):=by rfl) (hy:val E y=some (nv s):=by rfl):Yields P E o w (.bool (decide (r=s))) :=
 y_bin (fun x y w=>by
  show Result.ok (Value.bool (r == s)) w=_;by_cases e:r=s
  ·subst e;simp
  simp [e]) ho hx hy
theorem yi_neq {r s:Int} (ho:o.op=.binOp .neq t x y t':=by rfl) (hx:val E x=some (nv r):=by rfl) (hy:val E y=some (nv s):=by rfl):Yields P E o w (.bool (!decide (r=s))) :=
 y_bin (fun x y w=>by
  show Result.ok (Value.bool (r != s)) w=_;by_cases e:r=s
  ·subst e;simp
  simp [e,bne]) ho hx hy
theorem yi_rem {r s:Int} (ho:o.op=.binOp .rem t x y t') (hx:val E x=some (nv r)) (hy:val E y=some (nv s)) (h0:0<=r) (h1:0<s):Yields P E o w (nv (r % s)) :=
 y_bin (fun x y w=>by
  show (Op.intDiv .rem .i64 r s).run P w=_;unfold Op.intDiv;rw [if_neg (by omega)];show Result.ok (Value.int .i64 (r.tmod s)) w=_;rw [Int.tmod_eq_emod_of_nonneg h0]) ho hx hy
theorem yi_quo {r s:Int} (ho:o.op=.binOp .quo t x y t') (hx:val E x=some (nv r)) (hy:val E y=some (nv s)) (h0:0<=r) (h1:0<s) (h2:r<9223372036854775808):Yields P E o w (nv (r / s)) :=
 y_bin (fun x y w=>by
  show (Op.intDiv .quo .i64 r s).run P w=_;unfold Op.intDiv;rw [if_neg (by omega)];show Result.ok (Value.int .i64 (IntKind.i64.wrap (r.tdiv s))) w=_;have h3:r / s<=r:=Int.ediv_le_self _ h0;have h4:0<=r / s:=Int.ediv_nonneg h0 (by omega);rw [Int.tdiv_eq_ediv_of_nonneg h0,wrap_i64 (by omega) (by omega)]) ho hx hy
theorem yi_shr {r s:Int} {k:IntKind} (ho:o.op=.binOp .shr t x y t') (hx:val E x=some (nv r)) (hy:val E y=some (.int k s)) (h1:0<=s) (h2:s<64):Yields P E o w (nv (r / 2 ^ s.toNat)) :=
 y_bin (fun x y w=>by
  show (Op.shift .shr .i64 r k s).run P w=_;unfold Op.shift;rw [if_neg (by omega)];have hm:min s.toNat IntKind.i64.bits=s.toNat:=by
   show min s.toNat 64=s.toNat;omega
  simp only [hm];show Result.ok (Value.int .i64 (r.fdiv (2 ^ s.toNat))) w=_;rw [Int.fdiv_eq_ediv_of_nonneg _ (Int.pow_nonneg (by omega))]) ho hx hy
theorem yi_and {r s:Int} (ho:o.op=.binOp .and t x y t':=by rfl) (hx:val E x=some (nv r):=by rfl) (hy:val E y=some (nv s):=by rfl):Yields P E o w (nv (bits .and .i64 r s)) :=
 y_bin (fun x y w=>rfl) ho hx hy
theorem y_bnot {b:Bool} (ho:o.op=.unOp .not t x:=by rfl) (hx:val E x=some (.bool b):=by rfl):Yields P E o w (.bool (!b)) :=
 y_un (fun w=>rfl) ho hx

-- fields
def aggB (P:Program) (t:TypeId):Option Bool:=(P.underlying t).map fun | .struct _=>true | .array _ _=>true | _=>false
theorem run_isAgg {b:Bool} (h:aggB P t=some b):(isAgg t).run P w=.ok b w:=by
 unfold aggB at h;cases hq:P.underlying t with
 | none=>simp [hq] at h
 | some dd =>
  have hr:=run_underlying (w:=w) hq;cases dd<;>simp [hq] at h<;>subst h<;>simp [isAgg,hr]
def fldOff (P:Program) (s:TypeId) (f:Nat):Option Nat :=
 match P.underlying s with
 | some (.struct fs) =>
  match fs[f]? with
  | some g=>(P.info? g.type).bind fun i=>if i.size=0 then none else some g.offset
  | none=>none
 | _=>none
theorem y_fld {s:TypeId} {f b off:Nat} (hf:fldOff P s f=some off:=by kernel_rfl) (ho:o.op=.fieldAddr s x f:=by rfl) (hx:val E x=some (pv b j):=by rfl):Yields P E o w (pv b (j+off)):=fun n a ha=>.inl (by
 unfold execOp;rw [ho];simp only [ha.eval hx];have hb:(Instr.fieldAt s (pv b j) f).run P w=.ok (pv b (j+off)) w:=by
  unfold fldOff at hf;cases hu:P.underlying s with
  | none=>simp [hu] at hf
  | some dd =>
   cases dd with
   | struct fs =>
    simp only [hu] at hf;cases hg:fs[f]? with
    | none=>simp [hg] at hf
    | some g =>
     simp only [hg] at hf;cases hi:P.info? g.type with
     | none=>simp [hi] at hf
     | some i =>
      by_cases hz:i.size=0
      ·simp [hi,hz] at hf
      simp [hi,hz] at hf;subst hf;simp [Instr.fieldAt,run_underlying hu,hg,Instr.sureAddr,fieldPlace,sizeOf,typeInfo,hi,hz,Addr.add]
   | _=>simp [hu] at hf
 rw [Sem.run_bind,hb];rfl)
theorem Qo {b:Nat} {tr:TypeId} {cs:Array Value} (hr:RowAt w b tr cs) (hj:cs[j]?=some v) (hu:aggB P t=some false) (ho:o.op=.load t x) (hx:val E x=some (pv b j)):Yields P E o w v :=
 y_load (by
  have hc:w.cell? ⟨b,j,none⟩=some v:=by rw [cell_of_row w b j cs tr _ hr,hj]
  simp [loadVar,run_isAgg hu,hc]) ho hx
theorem y_part {b:Nat} {tr:TypeId} {cs:Array Value} (hr:RowAt w b tr cs) (he:cs.extract j (j+m)=ds) (hl:j+m<=cs.size) (hu:aggB P t=some true:=by kernel_rfl) (hi:(P.info? t).map (·.size)=some m:=by kernel_rfl) (ho:o.op=.load t x:=by rfl) (hx:val E x=some (pv b j):=by rfl):Yields P E o w (.agg ds) :=
 y_load (by
  have hd:∀ k u,ds.toList[k]?=some u->w.cell? ((⟨b,j,none⟩:Addr).add k)=some u:=by
   intro k u hk;rw [Addr.add_lit,cell_of_row w b (j+k) cs tr _ hr];subst he;have hk':k<m:=by
    have:=(List.getElem?_eq_some_iff.1 hk).1;simp at this;omega
   have:(cs.extract j (j+m))[k]?=some u:=by rw [<-Array.getElem?_toList];exact hk
   rw [Array.getElem?_extract] at this;rw [if_pos (by omega)] at this;exact this
  have hsz:ds.size=m:=by subst he;simp;omega
  cases hq:P.info? t with
  | none=>simp [hq] at hi
  | some i =>
   have hz:i.size=m:=by simpa [hq] using hi
   have hl:=run_loadCells_list (P:=P) w ⟨b,j,none⟩ ds.toList hd;rw [Array.length_toList,hsz] at hl;simp [loadVar,run_isAgg hu,sizeOf,typeInfo,hq,hz,hl]) ho hx
def fldTy (P:Program) (s:TypeId) (f:Nat):Option (Nat × TypeId) :=
 match P.underlying s with
 | some (.struct fs)=>(fs[f]?).map fun g=>(g.offset,g.type)
 | _=>none
theorem run_field {s ft:TypeId} {f off:Nat} {cs:Array Value} (hf:fldTy P s f=some (off,ft)):(Instr.field s (.agg cs) f).run P w=(part ft cs off).run P w:=by
 unfold fldTy at hf;cases hu:P.underlying s with
 | none=>simp [hu] at hf
 | some dd =>
  cases dd with
  | struct fs =>
   simp only [hu] at hf;cases hg:fs[f]? with
   | none=>simp [hg] at hf
   | some g =>
    simp [hg] at hf;obtain ⟨h1,h2⟩:=hf;subst h1 h2;simp [Instr.field,run_underlying hu,hg,asAgg]
  | _=>simp [hu] at hf
theorem y_fieldp {s ft:TypeId} {f off:Nat} {cs:Array Value} (hf:fldTy P s f=some (off,ft)) (hu:aggB P ft=some true) (hi:(P.info? ft).map (·.size)=some m) (ho:o.op=.field s x f) (hx:val E x=some (.agg cs)) (hv:cs.extract off (off+m)=ds):Yields P E o w (.agg ds):=fun n a ha=>.inl (by
 unfold execOp;rw [ho];simp only [ha.eval hx];rw [Sem.run_bind,run_field hf];cases hq:P.info? ft with
 | none=>simp [hq] at hi
 | some i =>
  have hz:i.size=m:=by simpa [hq] using hi
  simp [part,run_isAgg hu,sizeOf,typeInfo,hq,hz,hv])
theorem y_nilc {p:Addr} (ho:o.op=.nilCheck x:=by rfl) (hx:val E x=some (.pointer (some p)):=by rfl):Yields P E o w (.pointer (some p)):=fun n a ha=>.inl (by
 unfold execOp;rw [ho];simp only [ha.eval hx];rfl)
theorem y_mkf {f:Fn} {xs ys:List Operand} (ho:o.op=.makeFunc f xs.toArray ys.toArray:=by rfl) (hx:vals E xs=some vs:=by rfl) (hy:vals E ys=some us:=by rfl):Yields P E o w (.func f vs.toArray us.toArray):=fun n a ha=>.inl (by
 unfold execOp;rw [ho];simp [Instr.makeFunc,ha.evals hx,ha.evals hy])
theorem y_len {c:Nat} {el:TypeId} (hu:P.underlying t=some (.slice el):=by kernel_rfl) (ho:o.op=.call { callee:=.builtin .len,args:=#[x],argTypes:=#[t] }:=by rfl) (hx:val E x=some (.slice A m c):=by rfl):Yields P E o w (iv m):=fun n a ha=>.inl (by
 unfold execOp;rw [ho];simp [resolve,invoke,builtin,ha.eval hx,Builtin.len_,run_underlying hu];rfl)
theorem y_streq {s s':ByteArray} (ho:o.op=.binOp .eql t x y t') (hx:val E x=some (.string s)) (hy:val E y=some (.string s')):Yields P E o w (.bool (s.toList == s'.toList)) :=
 y_bin (fun x y w=>rfl) ho hx hy
-- calls
theorem exec_enterv {f: FuncId} {vs fs us: List Value} {E: Env} (hf : ((P.funcs[f]?).map fun fn => (fn.name == "runtime.NumGoroutine", fn.body.isNone)) = some (false, false)) (xs : List Operand) (ts : Array TypeId) (a : Act) (ha : Holds n E a)
  (hx:vals E xs=some vs) (hc:val E x=some (.func (.func f) fs.toArray us.toArray)) (o:Oper) (ho:o.op=.call { callee:=.value x,args:=xs.toArray,argTypes:=ts }) (w:World):(execOp a.eval o).run P w=.ok (.enter f (fs++vs++us).toArray) w:=by
 unfold execOp;rw [ho];have:=call_enter hf (fs++vs++us).toArray w;simp [resolve,Deferred.ofValue,ha.eval hc,invoke,ha.evals hx];simpa using this
theorem y_callv {f:FuncId} {xs:List Operand} {fs:List Value} (hc:Calls P f (fs++vs++us).toArray w fun e w'=>e=.returned v/\w'=w)
  (hf : ((P.funcs[f]?).map fun fn => (fn.name == "runtime.NumGoroutine", fn.body.isNone)) = some (false, false))
  (ho:o.op=.call { callee:=.value x,args:=xs.toArray,argTypes:=ts }) (hv:val E x=some (.func (.func f) fs.toArray us.toArray)) (hx:vals E xs=some vs):Yields P E o w v:=fun n a ha =>
 .inr ⟨f,(fs++vs++us).toArray,exec_enterv hf xs ts a ha hx hv o ho w,hc⟩
theorem y_callf {f:FuncId} {xs:List Operand} (hc:Calls P f vs.toArray w fun e w'=>e=.returned v/\w'=w)
  (hf : ((P.funcs[f]?).map fun fn => (fn.name == "runtime.NumGoroutine", fn.body.isNone)) = some (false, false) := by kernel_rfl)
  (ho:o.op=.call { callee:=.value x,args:=xs.toArray,argTypes:=ts }:=by rfl) (hv:val E x=some (.func (.func f) #[] #[]):=by rfl) (hx:vals E xs=some vs:=by rfl):Yields P E o w v :=
 y_callv (fs:=[]) (us:=[]) (vs:=vs) (by simpa using hc) hf ho hv hx
theorem lg_callv {f:FuncId} {xs:List Operand} {fs:List Value} {R:Value->World->Prop} (hw:Want ops E o true) (hc:Calls P f (fs++vs++us).toArray w fun e w'=>∃ v,e=.returned v/\R v w')
  (hf : ((P.funcs[f]?).map fun fn => (fn.name == "runtime.NumGoroutine", fn.body.isNone)) = some (false, false))
  (ho:o.op=.call { callee:=.value x,args:=xs.toArray,argTypes:=ts }) (hv:val E x=some (.func (.func f) fs.toArray us.toArray)) (hx:vals E xs=some vs) (hd:o.dst=some d) (hn:d<n)
  (h:∀ v w',R v w'->LG P ops Q n ((d,v)::E) rest w'):LG P ops Q n E (o::rest) w:=by
 intro a ha;unfold wpList;rw [hw n a ha,if_pos rfl];refine .inl ?_;unfold Oper.wp;rw [exec_enterv hf xs ts a ha hx hv o ho w,Oper.upon_enter];refine hc.mono ?_;rintro e w' ⟨v,rfl,hR⟩;show wpList P ops Q rest (a.put o.dst v) w';rw [hd];exact h v w' hR _ (ha.put hn)
theorem lg_do (hw:Want ops E o true) (hr:∀ n a,Holds n E a->(execOp a.eval o).run P w=.ok (.value v) w') (hd:o.dst=some d) (hn:d<n) (h:LG P ops Q n ((d,v)::E) rest w'):LG P ops Q n E (o::rest) w:=by
 intro a ha;unfold wpList;rw [hw n a ha,if_pos rfl];refine .inl ?_;unfold Oper.wp;rw [hr n a ha];show wpList P ops Q rest (a.put o.dst v) w';rw [hd];exact h _ (ha.put hn)
theorem lg_boxw {cs:Array Value} (hw:Want ops E o true) (ho:o.op=.box t x) (hx:val E x=some (.agg cs)) (hi:(P.info? t).map (·.size)=some cs.size) (hd:o.dst=some d) (hn:d<n)
  (h:∀ b w',New w w' b t cs->LG P ops Q n ((d,.pointer (some ⟨b,0,none⟩))::E) rest w'):LG P ops Q n E (o::rest) w :=
 lg_do hw (fun n a ha=>by
  unfold execOp;rw [ho];simp only [ha.eval hx];simp [Instr.box,newVar,newRow,Value.cells]) hd hn (h _ _ (New.of_alloc t cs))
theorem lg_allocw {cs:Array Value} (hw:Want ops E o true) (ho:o.op=.alloc t) (hi:(P.info? t).map (fun i=>(i.zero,i.size))=some (some (.agg cs),cs.size)) (hd:o.dst=some d) (hn:d<n)
  (h:∀ b w',New w w' b t cs->LG P ops Q n ((d,.pointer (some ⟨b,0,none⟩))::E) rest w'):LG P ops Q n E (o::rest) w :=
 lg_do hw (fun n a ha=>by
  unfold execOp;rw [ho];simp [Instr.alloc,newVar,newRow,Value.cells,(zero_of_info hi)]) hd hn (h _ _ (New.of_alloc t cs))
theorem lg_st {tr:TypeId} {b:Nat} {old new:Array Value} (hw:Want ops E o true) (hr:RowAt w b tr old) (ho:o.op=.store t x y) (hx:val E x=some (pv b j)) (hy:val E y=some u)
  (hi:(P.info? t).map (·.size)=some u.cells.size) (h1:u.cells.all (·.oneCell')=true) (hfit:j+u.cells.size<=old.size) (hnew:(old.toList.take j++u.cells.toList++old.toList.drop (j+u.cells.size)).toArray=new) (hd:o.dst=none)
  (h:∀ w',Set1 w w' b tr new->LG P ops Q n E rest w'):LG P ops Q n E (o::rest) w:=by
 intro a ha;unfold wpList;rw [hw n a ha,if_pos rfl];refine .inl ?_;unfold Oper.wp;have he:(execOp a.eval o).run P w=.ok .skip (w.setRow b new):=by
  unfold execOp;rw [ho];simp only [ha.eval hx,ha.eval hy,Instr.storeAt,Instr.sureAddr];have hs:(storeVar t ⟨b,j,none⟩ u).run P w=.ok () (w.setRow b new):=by
   cases hq:P.info? t with
   | none=>simp [hq] at hi
   | some it =>
    have hz:it.size=u.cells.size:=by simpa [hq] using hi
    have hst:=run_storeCells_at P b j tr u.cells.toList 0 old w hr (by simpa using hfit) (fun v hv=>by
     have:=Array.all_eq_true.1 h1;obtain ⟨k,hk,e⟩:=List.mem_iff_getElem.1 hv;have h2:=this k (by simpa using hk);simpa [<-e] using h2)
    simp only [Nat.add_zero,Array.length_toList] at hst;rw [hnew] at hst;simp [storeVar,sizeOf,typeInfo,hq,hz,hst]
  simp [hs]
 rw [he];show wpList P ops Q rest (a.put o.dst undef) _;rw [hd];exact h _ (Set1.of_setRow hr) a ha
theorem held_up {S S':World->Prop} {md:Region.Mode} (hS:∀ w,S' w->S w):∀ (fuel:Nat) (listed:Array Bool) (a:Act) (w:World),wpAnyH P md ops Q S' fuel listed a w->wpAnyH P md ops Q S fuel listed a w
 | 0,_,_,_,h=>h
 | fuel+1,listed,a,w,h=>⟨h.1,fun i hi=>wpOp_mono (fun a' w' k=>⟨hS _ k.1,held_up hS fuel _ a' w' k.2⟩) (h.2 i hi)⟩
theorem hg_up {fuel:Nat} {listed:Array Bool} (hb:Below w0.heap.size w0 w) (h:HG P ops Q w n fuel listed E w):HG P ops Q w0 n fuel listed E w:=fun a ha =>
 held_up (fun w' hw=>hb.trans (hw.mono hb.size)) _ _ _ _ (h a ha)
end
/- WkE:
  Rules for code: what an end of a piece of code leads to; loops; results; a block of one's own that a callee writes: they name no type.
-/
section
variable {P:Program} {ops:Array Oper} {Q Q':Exit->Act->World->Prop} {n d:Nat} {E:Env} {o:Oper} {rest:List Oper} {w w0:World} {v:Value} {x y:Operand} {t t':TypeId} {K:Act->World->Prop} {id id':Nat}

theorem Qh (h:∀ a,Holds n E a->Q (.exit id) a w):∀ a,Holds n E a->Exit.then K Q (.exit id) a w:=h
theorem Qc (h:∀ a,Holds n E a->Q .ret a w):∀ a,Holds n E a->Exit.then K Q .ret a w:=h
theorem Qi (h:∀ a,Holds n E a->Q .normal a w):∀ a,Holds n E a->Exit.inBlock id Q .normal a w:=h
theorem Qg (h:∀ a,Holds n E a->Q .ret a w):∀ a,Holds n E a->Exit.inBlock id Q .ret a w:=h
theorem Ql (h:∀ a,Holds n E a->Q .normal a w):∀ a,Holds n E a->Exit.inBlock id Q (.exit id) a w:=fun a ha=>by
 show (if id=id then _ else _);rw [if_pos rfl];exact h a ha
theorem eg_block_other (hne:id'≠id) (h:∀ a,Holds n E a->Q (.exit id') a w):∀ a,Holds n E a->Exit.inBlock id Q (.exit id') a w:=fun a ha=>by
 show (if id'=id then _ else _);rw [if_neg hne];exact h a ha
theorem cg_ct {c:Operand} {x y:Code} (hc:val E c=some (.bool true)) (h:CG P Q n E x w):CG P Q n E (.cond c x y) w:=cg_cond true hc (fun _=>h) (fun e=>by cases e)
theorem cg_cf {c:Operand} {x y:Code} (hc:val E c=some (.bool false)) (h:CG P Q n E y w):CG P Q n E (.cond c x y) w:=cg_cond false hc (fun e=>by cases e) (fun _=>h)
theorem cg_if {p:Prop} [Decidable p] {c:Operand} {x y:Code} (hc:val E c=some (.bool (decide p))) (h1:p->CG P Q n E x w) (h0:¬p->CG P Q n E y w):CG P Q n E (.cond c x y) w :=
 cg_cond (decide p) hc (fun e=>h1 (of_decide_eq_true e)) (fun e=>h0 (of_decide_eq_false e))
theorem Qr {c:Code} (I:Nat->Act->World->Prop) (N:Nat) (h0:∀ a,Holds n E a->I 0 a w) (round:∀ t a v,t<=N->I t a v->c.wp P (Exit.then (fun a' w'=>t<N/\I (t+1) a' w') Q) a v):CG P Q n E (.loop c) w :=
 fun a ha=>cg_loop I N (h0 a ha) round
theorem Qa {fn:Func} {p:Tmp} (h:fn.results=#[.tmp p]) (hp:look E p=some v) (hR:R (.returned v) w):∀ a,Holds n E a->bodyPost P fn R .ret a w :=
 fun a ha=>bodyPost_ret (by have:=ha.2.2 p _ hp;simp [results,h,this]) ha.2.1 hR
theorem eg_ret_tmp2 {fn:Func} {p:Tmp} (h:fn.results=#[.tmp p,.tmp q]) (hp:look E p=some v) (hq:look E q=some u) (hR:R (.returned (.tuple #[v,u])) w):∀ a,Holds n E a->bodyPost P fn R .ret a w :=
 fun a ha=>bodyPost_ret (by have h1:=ha.2.2 p _ hp;have h2:=ha.2.2 q _ hq;simp [results,h,h1,h2]) ha.2.1 hR
theorem eg_ret_agg {fn:Func} {p:Tmp} {ty tr:TypeId} {b:Nat} {cs:Array Value} (h:fn.results=#[.cell p ty]) (hp:look E p=some (pv b 0)) (hr:RowAt w b tr cs)
  (hu:aggB P ty=some true) (hi:(P.info? ty).map (·.size)=some cs.size) (hR:R (.returned (.agg cs)) w):∀ a,Holds n E a->bodyPost P fn R .ret a w :=
 fun a ha=>by
  unfold aggB at hu;cases hq:P.underlying ty with
  | none=>simp [hq] at hu
  | some dd =>
   rw [hq] at hu;exact bodyPost_ret (results_cell_row h a.tmps w b tr cs _ dd (by have:=ha.2.2 p _ hp;simp [this]) hr hq (by cases dd<;>first | rfl | (simp at hu)) hi) ha.2.1 hR
theorem eg_end_none {fn:Func} (h:fn.results=#[]) (hR:R (.returned (.tuple #[])) w):∀ a,Holds n E a->bodyPost P fn R .normal a w :=
 fun a ha=>bodyPost_end (by simp [results,h]) ha.2.1 hR
structure But (w w':World) (b:Nat):Prop where
 size:w.heap.size<=w'.heap.size
 other:∀ k,k<w.heap.size->k≠b->w'.heap[k]?=w.heap[k]?
 below:∀ B,B<=b->B<=w.heap.size->Below B w w'
theorem But.keep {b:Nat} {cs':Array Value} (h:But w w' b) (r:RowAt w b' t cs') (e:b'≠b):RowAt w' b' t cs':=by
 unfold RowAt;rw [h.other b' r.lt e];exact r
theorem But.refl (b:Nat):But w w b:=⟨Nat.le_refl _,fun _ _ _=>rfl,fun B _ _=>Below.refl _ _⟩
theorem But.grow {v:World} {b:Nat} (h:But w v b) (g:Below v.heap.size v w'):But w w' b :=
 ⟨Nat.le_trans h.size g.size,fun k hk e=>(g.block k (Nat.lt_of_lt_of_le hk h.size)).trans (h.other k hk e),fun B h1 h2=>(h.below B h1 h2).trans (g.mono (Nat.le_trans h2 h.size))⟩
theorem But.set {v:World} {b c:Nat} {cs:Array Value} (h:But w v b) (s:Set1 v w' c t cs) (hc:w.heap.size<=c\/c=b):But w w' b :=
 ⟨by rw [s.size];exact h.size,fun k hk e=>(s.other k (by omega)).trans (h.other k hk e),fun B h1 h2=>(h.below B h1 h2).trans (s.below B (by omega))⟩
theorem But.but {v:World} {b:Nat} (h:But w v b) (g:But v w' b):But w w' b :=
 ⟨Nat.le_trans h.size g.size,fun k hk e=>(g.other k (Nat.lt_of_lt_of_le hk h.size) e).trans (h.other k hk e),fun B h1 h2=>(h.below B h1 h2).trans (g.below B h1 (Nat.le_trans h2 h.size))⟩
theorem below_drew (w W:World) (h:W=w.drew):Below w.heap.size w W:=by subst h;exact (Below.refl _ _).drew
theorem size_drew (w W:World) (h:W=w.drew):W.heap.size=w.heap.size:=by subst h;rfl
-- a region held by a condition of one's own
def HGS (P:Program) (ops:Array Oper) (Q:Exit->Act->World->Prop) (S:World->Prop) (n fuel:Nat) (listed:Array Bool) (E:Env) (w:World):Prop:=∀ a,Holds n E a->wpAnyH P .any ops Q S fuel listed a w
theorem cg_heldS {l:List Oper} (S:World->Prop) (hm:P.follows .mixedOrders=true) (hS:∀ W,W=w.drew->S W) (h:∀ W,W=w.drew->HGS P l.toArray Q S n l.toArray.size (Array.replicate l.toArray.size false) E W):CG P Q n E (.region id l.toArray true) w:=fun a ha =>
 wp_region_held_drew (S:=S) hm (hS _ rfl) (fun _=>h _ rfl a ha)
theorem hgs_take {S:World->Prop} {fuel:Nat} {listed:Array Bool} (i:Nat) (ho:ops[i]?=some o) (hw:Want ops E o true) (hv:isVal o.op=true) (hd:o.dst=some d) (hn:d<n)
  (hs:Region.noSelect ops=true) (hf:Region.free .any ops listed i=true) (hr:(Region.ready .any ops listed).contains i=true)
  (hQ:∀ c a w,Q (.panic c) (a.put (some d) v) w->Q (.panic c) a w) (hb:S w) (y:∀ w',S w'->Yields P E o w' v)
  (h:HGS P ops Q S n fuel (listed.setIfInBounds i true) ((d,v)::E) w):HGS P ops Q S n (fuel+1) listed E w:=by
 intro a ha;have h':=h _ (ha.put (v:=v) hn);rw [<-hd] at h' hQ;refine wpAnyH_take (i:=i) (oi:=o) (v:=v) ho hs hf hr hQ (.inl ⟨hw n a ha,fun w' hS=>?_⟩) hb h';rcases y w' hS n a ha with hy | ⟨f,args,hy,hc⟩
 ·exact hy
 exact absurd hy (val_of hv)
theorem hgs_takev {S:World->Prop} {fuel:Nat} {listed:Array Bool} (i:Nat) (ho:ops[i]?=some o) (hw:Want ops E o true) (hd:o.dst=some d) (hn:d<n)
  (hs:Region.noSelect ops=true) (hf:Region.free .any ops listed i=true) (hr:(Region.ready .any ops listed).contains i=true)
  (hQ:∀ c a w,Q (.panic c) (a.put (some d) v) w->Q (.panic c) a w) (hb:S w) (y:∀ w' n a,Holds n E a->(execOp a.eval o).run P w'=.ok (.value v) w')
  (h:HGS P ops Q S n fuel (listed.setIfInBounds i true) ((d,v)::E) w):HGS P ops Q S n (fuel+1) listed E w:=by
 intro a ha;have h':=h _ (ha.put (v:=v) hn);rw [<-hd] at h' hQ;exact wpAnyH_take (i:=i) (oi:=o) (v:=v) ho hs hf hr hQ (.inl ⟨hw n a ha,fun w' hS=>y w' n a ha⟩) hb h'
theorem hgs_one {S:World->Prop} {fuel:Nat} {listed:Array Bool} (i:Nat) (ho:ops[i]?=some o) (hr:Region.ready .any ops listed=[i]) (hw:Want ops E o true)
  (h:LG P ops (Exit.then (fun a w'=>S w'/\wpAnyH P .any ops Q S fuel (listed.setIfInBounds i true) a w') Q) n E [o] w):HGS P ops Q S n (fuel+1) listed E w:=by
 intro a ha;refine wpAnyH_all hr (by simp) fun j hj=>?_;obtain rfl:j=i:=by simpa using hj
 exact op_of_lg j ho hw ha h
theorem hgs_next {S:World->Prop} {fuel:Nat} {listed:Array Bool} {i:Nat} (hb:S w) (h:HGS P ops Q S n fuel (listed.setIfInBounds i true) E w):LG P ops (Exit.then (fun a w'=>S w'/\wpAnyH P .any ops Q S fuel (listed.setIfInBounds i true) a w') Q) n E [] w :=
 fun a ha=>⟨hb,h a ha⟩
theorem hgs_done {S:World->Prop} {fuel:Nat} {listed:Array Bool} (hr:Region.ready .any ops listed=[]) (h:∀ a,Holds n E a->Q .normal a w):HGS P ops Q S n fuel listed E w:=fun a ha=>wpAnyH_done hr (h a ha) fuel
theorem nd_t {p:Prop} [Decidable p] (h:¬p):(!decide p)=true:=by simp [h]
theorem nd_f {p:Prop} [Decidable p] (h:p):(!decide p)=false:=by simp [h]
end
/- WkO:
  Variables of one cell in memory, and parts of what a call answers: they name no type.
-/
section
variable {P:Program} {ops:Array Oper} {Q:Exit->Act->World->Prop} {n d:Nat} {E:Env} {o:Oper} {rest:List Oper} {w w0:World} {v:Value} {x y:Operand} {t t':TypeId}
-- boxes: a variable of one cell
theorem lg_boxs (hu:u.cells=#[u]) (hw:Want ops E o true) (ho:o.op=.box t x) (hx:val E x=some u) (hd:o.dst=some d) (hn:d<n)
  (h:∀ b w',New w w' b t #[u]->LG P ops Q n ((d,pv b 0)::E) rest w'):LG P ops Q n E (o::rest) w :=
 lg_do hw (fun n a ha=>by
  unfold execOp;rw [ho];simp only [ha.eval hx];simp [Instr.box,newVar,newRow,hu]) hd hn (h _ _ (New.of_alloc t #[u]))
theorem lg_allocs (hi:(P.info? t).map (fun i=>(i.zero,i.size))=some (some u,1)) (hu:u.cells=#[u]) (hw:Want ops E o true) (ho:o.op=.alloc t) (hd:o.dst=some d) (hn:d<n)
  (h:∀ b w',New w w' b t #[u]->LG P ops Q n ((d,pv b 0)::E) rest w'):LG P ops Q n E (o::rest) w :=
 lg_do hw (fun n a ha=>by
  unfold execOp;rw [ho];simp [Instr.alloc,newVar,newRow,hu,(zero_of_info hi)]) hd hn (h _ _ (New.of_alloc t #[u]))
theorem lg_sts {tr:TypeId} {b:Nat} {old:Value} (hr:RowAt w b tr #[old]) (hu:u.cells=#[u]) (h1:u.oneCell'=true) (hi:(P.info? t).map (·.size)=some 1) (hw:Want ops E o true) (ho:o.op=.store t x y) (hx:val E x=some (pv b 0)) (hy:val E y=some u) (hd:o.dst=none)
  (h:∀ w',Set1 w w' b tr #[u]->LG P ops Q n E rest w'):LG P ops Q n E (o::rest) w :=
 lg_st hw hr ho hx hy (by rw [hu];exact hi) (by rw [hu];simpa using h1) (by rw [hu];simp) (by rw [hu];rfl) hd h
theorem y_extract {i:Nat} {cs:Array Value} (ho:o.op=.extract x i:=by rfl) (hx:val E x=some (.tuple cs):=by rfl) (hv:cs[i]?=some v:=by rfl):Yields P E o w v:=fun n a ha=>.inl (by
 unfold execOp;rw [ho];simp only [ha.eval hx];simp [Instr.extract,hv])
theorem v_extract {i:Nat} {cs:Array Value} (ho:o.op=.extract x i) (hx:val E x=some (.tuple cs)) (hv:cs[i]?=some v) (w:World) (n:Nat) (a:Act) (ha:Holds n E a):(execOp a.eval o).run P w=.ok (.value v) w:=by
 unfold execOp;rw [ho];simp only [ha.eval hx];simp [Instr.extract,hv]
end
/- WkC:
  Rules for slices of octets, copies, appends, strings.
-/
-- octets
theorem huo24:Tryz.prog.underlying 26=some (.slice 5):=by kernel_rfl
section
variable {ops:Array Oper} {Q:Exit->Act->World->Prop} {n d:Nat} {E:Env} {o:Oper} {rest:List Oper} {w w0:World} {v:Value} {x y:Operand} {t t':TypeId}
theorem y_str {c:Nat} (h:Oct w B A m xs) (ho:o.op=.convert 26 9 x:=by rfl) (hx:val E x=some (.slice A m c):=by rfl):Yields Tryz.prog E o w (.string (strOfNums xs)):=fun n a ha=>.inl (by
 unfold execOp;rw [ho];simp only [ha.eval hx];rw [Sem.run_bind,h.str c];rfl)
theorem y_cut_l {c:Nat} (l:Nat) {lo:Int} (e:lo=l) (h:l<=m) (ho:o.op=.slice 26 x (some y) none none:=by rfl) (hx:val E x=some (.slice A m c):=by rfl) (hy:val E y=some (nv lo):=by rfl):Yields Tryz.prog E o w (.slice (cutA A l c) (m-l) (c-l)):=fun n a ha=>.inl (by
 unfold execOp;rw [ho];simp only [ha.eval hx,Option.map_some,Option.map_none,ha.eval hy];rw [Sem.run_bind,run_cut_l A m c l lo e h];rfl)
theorem y_cut_h {c:Nat} (l:Nat) {hi:Int} (e:hi=l) (h:l<=c) (ho:o.op=.slice 26 x none (some y) none:=by rfl) (hx:val E x=some (.slice A m c):=by rfl) (hy:val E y=some (nv hi):=by rfl):Yields Tryz.prog E o w (.slice A l c):=fun n a ha=>.inl (by
 unfold execOp;rw [ho];simp only [ha.eval hx,Option.map_some,Option.map_none,ha.eval hy];rw [Sem.run_bind,run_cut_h A m c l hi e h];rfl)
theorem y_cut_lh {c:Nat} {z:Operand} (l k:Nat) {lo hi:Int} (e:lo=l) (e':hi=k) (h:l<=k) (h':k<=c) (ho:o.op=.slice 26 x (some y) (some z) none) (hx:val E x=some (.slice A m c)) (hy:val E y=some (nv lo)) (hz:val E z=some (nv hi)):Yields Tryz.prog E o w (.slice (cutA A l c) (k-l) (c-l)):=fun n a ha=>.inl (by
 unfold execOp;rw [ho];simp only [ha.eval hx,Option.map_some,Option.map_none,ha.eval hy,ha.eval hz];rw [Sem.run_bind,run_cut_lh A m c l k lo hi e e' h h'];rfl)
def rd (F:Nat->BitVec 8) (k:Nat):List Int:=(List.range k).map fun i=>vb (F i)
theorem rd_len (F:Nat->BitVec 8) (k:Nat):(rd F k).length=k:=by simp [rd]
theorem oct_row {b:Nat} {tr:TypeId} (h:RowAt w b tr (cB N F)) (hk:k<=N):Oct w (b+1) (some ⟨b,0,none⟩) k (rd F k):=by
 refine ⟨rd_len F k,fun z hz=>?_,fun _=>⟨b,0,rfl,by omega,fun i z hi=>?_⟩⟩
 ·obtain ⟨i,_,rfl⟩:=List.mem_map.1 hz;exact vb_range _
 rw [Nat.zero_add,cell_of_row w b i _ tr _ h];have hlt:i<k:=by
  have:=(List.getElem?_eq_some_iff.1 hi).1;simpa [rd] using this
 rw [cB_get (by omega)];simp [rd,hlt] at hi;rw [<-hi]
def toB (z:Int):BitVec 8:=BitVec.ofInt 8 z
theorem vb_toB {z:Int} (h:0<=z/\z<=255):vb (toB z)=z:=by
 unfold vb toB;rw [BitVec.toNat_ofInt];omega
def putF (F:Nat->BitVec 8) (j:Nat) (ys:List Int):Nat->BitVec 8:=fun i=>if j<=i/\i<j+ys.length then toB (ys.getD (i-j) 0) else F i
theorem cB_putF (hy:∀ z∈ys,0<=z/\z<=255) (h:j+ys.length<=N) :
  ((cB N F).toList.take j++ys.map (Value.int .u8)++(cB N F).toList.drop (j+ys.length)).toArray=cB N (putF F j ys):=by
 have hl:(cB N F).toList.length=N:=by simp [cB]
 have key:∀ i:Nat,(((cB N F).toList.take j++ys.map (Value.int .u8)++(cB N F).toList.drop (j+ys.length):List Value))[i]?=(cB N (putF F j ys)).toList[i]?:=by
  intro i;have e0:∀ (G:Nat->BitVec 8) (k:Nat),(cB N G).toList[k]?=if k<N then some (ov (G k)) else none:=by
   intro G k;by_cases hk:k<N
   ·simp [cB,hk]
   simp [cB,hk]
  have ht:((cB N F).toList.take j).length=j:=by rw [List.length_take,hl];omega
  rw [List.append_assoc];by_cases h1:i<j
  ·rw [List.getElem?_append_left (by omega),List.getElem?_take,if_pos h1,e0,e0];simp [putF,show ¬(j<=i/\i<j+ys.length) by omega]
  rw [List.getElem?_append_right (by omega),ht];by_cases h2:i<j+ys.length
  ·rw [List.getElem?_append_left (by simp;omega),List.getElem?_map,e0,if_pos (by omega)];have hlt:i-j<ys.length:=by omega
   rw [List.getElem?_eq_getElem hlt];simp only [putF,if_pos (show j<=i/\i<j+ys.length by omega),List.getD,List.getElem?_eq_getElem hlt,Option.map_some,Option.getD_some];rw [show (ov (toB ys[i-j]):Value)=.int .u8 ys[i-j] by rw [ov,vb_toB (hy _ (List.getElem_mem hlt))]]
  rw [List.getElem?_append_right (by simp;omega),List.length_map,List.getElem?_drop,e0,e0];rw [show j+ys.length+(i-j-ys.length)=i by omega];simp [putF,show ¬(j<=i/\i<j+ys.length) by omega]
 refine Array.toList_inj.1 ?_;rw [List.toList_toArray];exact List.ext_getElem? key
set_option maxRecDepth 20000 in
theorem lg_copy {b c m2 c2:Nat} {tr:TypeId} (hr:RowAt w b tr (cB N F)) (hO:Oct w B A m2 xs) (hj:j+m<=N) (hw:Want ops E o true)
  (ho:o.op=.call { callee:=.builtin .copy,args:=#[x,y],argTypes:=#[26,26] }) (hx:val E x=some (.slice (some ⟨b,j,none⟩) m c)) (hy:val E y=some (.slice A m2 c2)) (hd:o.dst=some d) (hn:d<n)
  (h:∀ w',Set1 w w' b tr (cB N (putF F j (xs.take m)))->LG Tryz.prog ops Q n ((d,iv (min m2 m))::E) rest w'):LG Tryz.prog ops Q n E (o::rest) w:=by
 have hsz:(Tryz.prog.info? 5).map (·.size)=some 1:=by kernel_rfl
 have hl:=hO.1;have hrun:(Builtin.copy_ #[26,26] o.type #[.slice (some ⟨b,j,none⟩) m c,.slice A m2 c2]).run Tryz.prog w=.ok (iv (min m2 m)) (w.setRow b (cB N (putF F j (xs.take m)))):=by
  have ez:putF F j []=F:=by
   funext i;simp only [putF,List.length_nil,Nat.add_zero];rw [if_neg (by omega)]
  by_cases h0:A=none
  ·subst h0;have h2:m2=0:=by
    rcases Nat.eq_zero_or_pos m2 with e | e
    ·exact e
    obtain ⟨_,_,e2,_⟩:=hO.2.2 e;cases e2
   subst h2;have hx0:xs=[]:=List.eq_nil_of_length_eq_zero hl;subst hx0;rw [run_copy_none (P:=Tryz.prog) w 26 26 o.type 5 (some ⟨b,j,none⟩) none m c 0 c2 huo24 hsz (by simp)];simp only [List.take_nil,Nat.zero_min];rw [ez,setRow_self w b _ tr (0,0) hr];rfl
  obtain ⟨ad,rfl⟩:=Option.ne_none_iff_exists'.1 h0;have hsrc:∀ k u,((xs.take m).map (Value.int .u8))[k]?=some u->w.cell? (ad.add k)=some u:=by
   intro k u hu;rw [List.getElem?_map,Option.map_eq_some_iff] at hu;obtain ⟨z,hz,rfl⟩:=hu;rw [List.getElem?_take] at hz;split at hz
   ·obtain ⟨b1,o1,e1,_,hc⟩:=hO.2.2 (by have:=(List.getElem?_eq_some_iff.1 hz).1;omega);injection e1 with e1
    subst e1;rw [Addr.add_lit];exact hc k z hz
   cases hz
  have hlen:((xs.take m).map (Value.int .u8)).length=Nat.min m2 m:=by
   rw [List.length_map,List.length_take,hl];exact Nat.min_comm m m2
  have hlt:(xs.take m).length<=m:=by rw [List.length_take];omega
  have hr2:=run_copy_row (P:=Tryz.prog) w 26 26 o.type 5 b j m c ad m2 c2 (cB N F) tr ((xs.take m).map (Value.int .u8)) huo24 hsz hr hlen hsrc (by rw [List.length_map,cB_size];omega) (ints_oneCell _ _);have e3:((xs.take m).map (Value.int .u8)).length=(xs.take m).length:=List.length_map _;have e4:goInt (((xs.take m).map (Value.int .u8)).length)=iv (min m2 m):=by rw [hlen];rfl
  rw [hr2,e4,e3,cB_putF (fun z hz=>hO.2.1 z (List.mem_of_mem_take hz)) (by omega)]
 intro a ha;unfold wpList;rw [hw n a ha,if_pos rfl];refine .inl ?_;unfold Oper.wp;have he:(execOp a.eval o).run Tryz.prog w=.ok (.value (iv (min m2 m))) (w.setRow b (cB N (putF F j (xs.take m)))):=by
  unfold execOp;rw [ho];simp only [resolve,invoke,builtin,List.map_toArray,List.map_cons,List.map_nil,ha.eval hx,ha.eval hy,Sem.run_bind,Sem.run_pure,Result.andThen_ok,hrun]
 rw [he];show wpList Tryz.prog ops Q rest (a.put o.dst _) _;rw [hd];exact h _ (Set1.of_setRow hr) _ (ha.put hn)
theorem lg_append {base:Nat} {c:Nat} (hown:w.ownsRow base 5 1 u xs.length (xs.map (Value.int .u8))) (hO:Oct w B A m ys) (hb:xs.length+m<=70368744177664) (hbase:base<=w.heap.size) (hw:Want ops E o true)
  (ho:o.op=.call { callee:=.builtin .append,args:=#[x,y],argTypes:=#[26,26] }) (hty:o.type=26) (hx:val E x=some u) (hy:val E y=some (.slice A m c)) (hd:o.dst=some d) (hn:d<n)
  (h:∀ v' w',w'.ownsRow base 5 1 v' (xs++ys).length ((xs++ys).map (Value.int .u8))->Below base w w'->LG Tryz.prog ops Q n ((d,v')::E) rest w'):LG Tryz.prog ops Q n E (o::rest) w:=by
 obtain ⟨v',w',hrun,hj⟩:=append_oct w base u xs ys A m c B hown hO hb hbase;refine lg_do hw (fun n a ha=>?_) hd hn (h v' w' (by rw [List.length_append,hO.1];have:=hj.1;rw [hO.1] at this;exact this) (joined_below hown hj (Below.refl _ _) hbase).1);simp [execOp,ho,hty,resolve,invoke,builtin,ha.eval hx,ha.eval hy,hrun,Result.andThen]
end
/- WkD:
  Rules for octets beside blocks that are written, slices of arrays, slices of octets that are made.
-/
section
variable {P:Program} {ops:Array Oper} {Q Q':Exit->Act->World->Prop} {n d:Nat} {E:Env} {o:Oper} {rest:List Oper} {w w0:World} {v:Value} {x y:Operand} {t t':TypeId} {K:Act->World->Prop} {id id':Nat}

theorem Oct.but {b:Nat} (h:Oct w B A m xs) (g:But w w' b) (hB:B<=b) (hB':B<=w.heap.size):Oct w' B A m xs:=h.below (g.below B hB hB')
def NoOct (cs:Array Value):Prop:=∀ (i:Nat) (z:Int),cs[i]?≠some (.int .u8 z)
theorem Oct.other {c:Nat} {old:Array Value} (h:Oct w B A m xs) (r:RowAt w c t old) (hno:NoOct old) (hk:∀ k,k<B->k≠c->w'.heap[k]?=w.heap[k]?):Oct w' B A m xs:=by
 refine ⟨h.1,h.2.1,fun hm=>?_⟩;obtain ⟨b,off,e,hB,hc⟩:=h.2.2 hm;refine ⟨b,off,e,hB,fun i z hz=>?_⟩;have h1:=hc i z hz;have hne:b≠c:=by
  intro e2;subst e2;have hz2:0<xs.length:=by rw [h.1];exact hm
  have h2:=h1;rw [cell_of_row w b (off+i) old t _ r] at h2;exact hno _ _ h2
 rw [<-h1];unfold World.cell?;rw [hk b hB hne]
theorem Oct.set {c:Nat} {old new:Array Value} (h:Oct w B A m xs) (r:RowAt w c t old) (hno:NoOct old) (s:Set1 w w' c t' new):Oct w' B A m xs :=
 h.other r hno fun k _ hk=>s.other k hk
theorem Oct.but2 {c:Nat} {old:Array Value} (h:Oct w B A m xs) (r:RowAt w c t old) (hno:NoOct old) (hB:B<=w.heap.size) (s:But w w' c):Oct w' B A m xs :=
 h.other r hno fun k hk hc=>s.other k (by omega) hc
theorem cW_no {F:Nat->BitVec 32}:NoOct (cW N F):=by
 intro i z e;by_cases h:i<N
 ·rw [cW_get h] at e;simp [wv] at e
 have:(cW N F)[i]?=none:=by simp [cW];omega
 rw [this] at e;cases e
-- slices of an array of one's own
theorem run_arr {b l h:Nat} {el:TypeId} (lo hi:Option Value) (hu:P.underlying t=some (.array N el)) (hs:(P.info? el).map (·.size)=some 1) (hb:(Instr.sliceBounds false N N lo hi none).run P w=.ok (l,h,N) w) (hl:l<N) :
  (Instr.sliceAt t (pv b 0) lo hi none).run P w=.ok (.slice (some ⟨b,l,none⟩) (h-l) (N-l)) w:=by
 cases hq:P.info? el with
 | none=>simp [hq] at hs
 | some i =>
  have hz:i.size=1:=by simpa [hq] using hs
  by_cases h0:N=l
  ·omega
  simp [Instr.sliceAt,run_underlying hu,Instr.sureAddr,hb,sizeOf,typeInfo,hq,hz,h0,Addr.add];exact fun e=>e.symm
theorem y_arr_all {b:Nat} {el:TypeId} (hu:P.underlying t=some (.array N el)) (hs:(P.info? el).map (·.size)=some 1) (h0:0<N) (ho:o.op=.slice t x none none none) (hx:val E x=some (pv b 0)):Yields P E o w (.slice (some ⟨b,0,none⟩) N N):=fun n a ha=>.inl (by
 unfold execOp;rw [ho];simp only [ha.eval hx,Option.map_none];rw [Sem.run_bind,run_arr none none hu hs (l:=0) (h:=N) (by simp [Instr.sliceBounds]) h0];rfl)
theorem y_arr_l {b:Nat} {el:TypeId} (l:Nat) {lo:Int} (e:lo=l) (hu:P.underlying t=some (.array N el)) (hs:(P.info? el).map (·.size)=some 1) (h0:l<N) (ho:o.op=.slice t x (some y) none none) (hx:val E x=some (pv b 0)) (hy:val E y=some (nv lo)):Yields P E o w (.slice (some ⟨b,l,none⟩) (N-l) (N-l)):=fun n a ha=>.inl (by
 subst e;unfold execOp;rw [ho];simp only [ha.eval hx,Option.map_none,Option.map_some,ha.eval hy];rw [Sem.run_bind,run_arr (some (nv l)) none hu hs (l:=l) (h:=N) (by simp [Instr.sliceBounds,run_sliceBound,show (l:Int)<=N by omega]) h0];rfl)
theorem y_arr_h {b:Nat} {el:TypeId} (k:Nat) {hi:Int} (e:hi=k) (hu:P.underlying t=some (.array N el)) (hs:(P.info? el).map (·.size)=some 1) (h0:0<N) (h1:k<=N) (ho:o.op=.slice t x none (some y) none) (hx:val E x=some (pv b 0)) (hy:val E y=some (nv hi)):Yields P E o w (.slice (some ⟨b,0,none⟩) k N):=fun n a ha=>.inl (by
 subst e;unfold execOp;rw [ho];simp only [ha.eval hx,Option.map_none,Option.map_some,ha.eval hy];rw [Sem.run_bind,run_arr none (some (nv k)) hu hs (l:=0) (h:=k) (by simp [Instr.sliceBounds,run_sliceBound,show (k:Int)<=N by omega]) h0];rfl)
theorem lg_stw {tr:TypeId} {b:Nat} {old cs:Array Value} (hw:Want ops E o true) (hr:RowAt w b tr old) (ho:o.op=.store t x y) (hx:val E x=some (pv b 0)) (hy:val E y=some (.agg cs))
  (hi:(P.info? t).map (·.size)=some cs.size) (h1:cs.all (·.oneCell')=true) (hsz:old.size=cs.size) (hd:o.dst=none)
  (h:∀ w',Set1 w w' b tr cs->LG P ops Q n E rest w'):LG P ops Q n E (o::rest) w :=
 lg_st hw hr ho hx hy hi h1 (by show 0+cs.size<=_;omega) (by
  show (old.toList.take 0++cs.toList++old.toList.drop (0+cs.size)).toArray=cs;rw [List.drop_eq_nil_of_le (by simp;omega)];simp) hd h
theorem lg_st1 {tr:TypeId} {b:Nat} {old new:Array Value} (hw:Want ops E o true) (hr:RowAt w b tr old) (ho:o.op=.store t x y) (hx:val E x=some (pv b j)) (hy:val E y=some u)
  (hi:(P.info? t).map (·.size)=some 1) (h1:u.oneCell'=true) (hfit:j<old.size) (hnew:old.setIfInBounds j u=new) (hd:o.dst=none)
  (h:∀ w',Set1 w w' b tr new->LG P ops Q n E rest w'):LG P ops Q n E (o::rest) w:=by
 have hc:u.cells=#[u]:=by cases u<;>first | rfl | simp [Value.oneCell'] at h1
 refine lg_st hw hr ho hx hy (by rw [hc];exact hi) (by rw [hc];simpa using h1) (by rw [hc];show j+1<=_;omega) ?_ hd h;rw [hc,<-hnew];refine Array.toList_inj.1 ?_;simp only [Array.toList_setIfInBounds,List.size_toArray,List.length_cons,List.length_nil];rw [List.set_eq_take_append_cons_drop,if_pos (by simpa using hfit)];simp
end
-- slices of octets that are made
section
variable {ops:Array Oper} {Q:Exit->Act->World->Prop} {n d:Nat} {E:Env} {o:Oper} {rest:List Oper} {w w0:World} {v:Value} {x y:Operand} {t t':TypeId}
theorem zeros_cB (k:Nat):(zeros k).toArray=cB k fun _=>0:=by
 unfold zeros cB;refine congrArg _ ?_;refine List.ext_getElem? fun i=>?_;by_cases h:i<k
 ·simp [h];rfl
 simp [h]
theorem lg_mk {K:Int} (k:Nat) (hw:Want ops E o true) (e:K=k) (hk:k<=70368744177664) (ho:o.op=.makeSlice 26 x y) (hx:val E x=some (nv K)) (hy:val E y=some (nv K)) (hd:o.dst=some d) (hn:d<n)
  (h:∀ b w',New w w' b 5 (cB k fun _=>0)->LG Tryz.prog ops Q n ((d,.slice (some ⟨b,0,none⟩) k k)::E) rest w'):LG Tryz.prog ops Q n E (o::rest) w:=by
 subst e;refine lg_do hw (fun n a ha=>?_) hd hn (h w.heap.size _ (New.of_alloc 5 (cB k fun _=>0)));have h1:=make_row k 0 0 rfl (by omega) w;simp only [Int.add_zero,Nat.add_zero] at h1;rw [zeros_cB] at h1;simp only [execOp,ho,ha.eval hx,ha.eval hy,Sem.run_bind,nv,h1,Result.andThen_ok,Sem.run_pure]
theorem lg_mk0 {K:Int} (k:Nat) (hw:Want ops E o true) (e:K=k) (hk:k<=70368744177664) (ho:o.op=.makeSlice 26 x y) (hx:val E x=some (nv 0)) (hy:val E y=some (nv K)) (hd:o.dst=some d) (hn:d<n)
  (h:∀ u w',w'.ownsRow w.heap.size 5 1 u ([]:List Int).length (([]:List Int).map (Value.int .u8))->Below w.heap.size w w'->LG Tryz.prog ops Q n ((d,u)::E) rest w'):LG Tryz.prog ops Q n E (o::rest) w:=by
 refine lg_do hw (fun n a ha=>?_) hd hn (h (.slice (some ⟨w.heap.size,0,none⟩) 0 k) (w.alloc (.cells (zeros k).toArray 5)) (room_own k (by unfold maxLen;omega) w) ((Below.refl _ _).alloc (Nat.le_refl _) _));have h1:=make_room k K e (by omega) w;simp only [execOp,ho,ha.eval hx,ha.eval hy,Sem.run_bind,nv,h1,Result.andThen_ok,Sem.run_pure]
theorem oct_lit {b:Nat} {tr:TypeId} {cs:Array Value} (r:RowAt w b tr cs) (hc:cs.toList=xs.map (Value.int .u8)) (hx:∀ z∈xs,0<=z/\z<=255):Oct w (b+1) (some ⟨b,0,none⟩) xs.length xs :=
 ⟨rfl,hx,fun _=>⟨b,0,rfl,by omega,fun i z hi=>by
  rw [Nat.zero_add,cell_of_row w b i cs tr _ r,<-Array.getElem?_toList,hc,List.getElem?_map,hi];rfl⟩⟩
theorem y_ixo {b off c i:Nat} {iI:Int} (e:iI=i) (hi:i<m) (ho:o.op=.indexAddr 26 x y:=by rfl) (hx:val E x=some (.slice (some ⟨b,off,none⟩) m c):=by rfl) (hy:val E y=some (nv iI):=by rfl):Yields Tryz.prog E o w (pv b (off+i)) :=
 y_ix (by
  subst e;obtain ⟨i0,hi0,hz0,hz1,hz2⟩:=info_parts info5;simp [Instr.indexAt,asIntOf,run_underlying huo24,sizeOf,typeInfo,hi0,hz1,hi,Addr.add]) ho hx hy
theorem y_celld {b:Nat} (hc:w.cell? ⟨b,j,none⟩=some v) (hu:aggB Tryz.prog t=some false:=by kernel_rfl) (ho:o.op=.load t x:=by rfl) (hx:val E x=some (pv b j):=by rfl):Yields Tryz.prog E o w v :=
 y_load (by simp [loadVar,run_isAgg hu,hc]) ho hx
theorem y_to8 {m:Int} {t0:TypeId} (hs:(Tryz.prog.underlying t0).isSome=true:=by kernel_rfl) (ho:o.op=.convert t0 5 x:=by rfl) (hx:val E x=some (nv m):=by rfl):Yields Tryz.prog E o w (ov (toB m)):=by
 cases hq:Tryz.prog.underlying t0 with
 | none=>simp [hq] at hs
 | some ds =>
  have h:=y_conv_u (w:=w) hq (show Tryz.prog.underlying 5=some (.int .u8) by kernel_rfl) ho hx;have e:IntKind.u8.wrap m=vb (toB m):=by
   rw [wrap_u8];unfold vb toB;rw [BitVec.toNat_ofInt];omega
  rw [e] at h;exact h
end
/- WkN:
  Rules for slices of whole numbers: places, pieces, one number behind, rows of one's own.
-/
theorem huIs:Tryz.prog.underlying 36=some (.slice 3):=by kernel_rfl
theorem huInt:Tryz.prog.underlying 3=some (.int .i64):=by kernel_rfl
def blk:Option Addr->Nat
 | some ⟨b,_,_⟩=>b
 | none=>0
def off:Option Addr->Nat
 | some ⟨_,o,_⟩=>o
 | none=>0
theorem Nums.at {w:World} {i:Nat} (h:Nums w B A m xs) (hi:i<m):A=some ⟨blk A,off A,none⟩/\blk A<B/\w.cell? ⟨blk A,off A+i,none⟩=some (nv (xs.getD i 0)):=by
 obtain ⟨b,o,rfl,hB,hc⟩:=h.2 (by omega);have hl:=h.1;have hx:xs[i]?=some (xs.getD i 0):=by
  rw [List.getElem?_eq_getElem (by omega),List.getD_eq_getElem?_getD,List.getElem?_eq_getElem (by omega)];rfl
 exact ⟨rfl,hB,hc i _ hx⟩
theorem Nums.cutA {w:World} {n:Nat} (h:Nums w B A n xs) (l m:Nat) (hn:n<=m) (hl:l<=n):Nums w B (cutA A l m) (n-l) (xs.drop l):=by
 refine ⟨by rw [List.length_drop,h.1],fun h0=>?_⟩;obtain ⟨b,o,rfl,hB,hc⟩:=h.2 (by omega);refine ⟨b,o+l,?_,hB,fun i x hx=>?_⟩
 ·unfold Go.Proofs.YtjjdcnkbibkmkaaGreatDoor.cutA;rw [if_neg (by omega),Option.map_some,Addr.add_lit,Nat.mul_one]
 have:=hc (l+i) x (by rw [List.getElem?_drop] at hx;exact hx);rwa [Nat.add_assoc]
theorem Nums.head {w:World} {n:Nat} (h:Nums w B A n xs) (k:Nat) (hk:k<=n):Nums w B A k (xs.take k):=by
 have hl:=h.1;refine ⟨by rw [List.length_take];omega,fun h0=>?_⟩;obtain ⟨b,o,rfl,hB,hc⟩:=h.2 (by omega);refine ⟨b,o,rfl,hB,fun i x hx=>hc i x ?_⟩;rw [List.getElem?_take] at hx;split at hx
 ·exact hx
 cases hx
theorem own_nilN (w:World) (base:Nat):w.ownsRow base 3 1 (.slice none 0 0) ([]:List Int).length (([]:List Int).map (Value.int .i64)):=⟨rfl,.inl ⟨rfl,rfl⟩⟩

section
variable {ops:Array Oper} {Q:Exit->Act->World->Prop} {n d:Nat} {E:Env} {o:Oper} {rest:List Oper} {w w0:World} {v:Value} {x y:Operand} {t t':TypeId}
theorem y_ixN {c i:Nat} {iI:Int} (h:Nums w B A m xs) (e:iI=i) (hi:i<m) (ho:o.op=.indexAddr 36 x y:=by rfl) (hx:val E x=some (.slice A m c):=by rfl) (hy:val E y=some (nv iI):=by rfl):Yields Tryz.prog E o w (pv (blk A) (off A+i)) :=
 y_ix (by
  subst e;rw [(h.at hi).1];have hs:(Tryz.prog.info? 3).map (·.size)=some 1:=by kernel_rfl
  cases hq:Tryz.prog.info? 3 with
  | none=>simp [hq] at hs
  | some it =>
   have hz:it.size=1:=by simpa [hq] using hs
   simp [Instr.indexAt,asIntOf,run_underlying huIs,Instr.sureAddr,sizeOf,typeInfo,hq,hz,hi,Addr.add,blk,off]) ho hx hy
theorem y_ldN {i:Nat} (h:Nums w B A m xs) (hi:i<m) (ho:o.op=.load 3 x:=by rfl) (hx:val E x=some (pv (blk A) (off A+i)):=by rfl):Yields Tryz.prog E o w (nv (xs.getD i 0)) :=
 y_load (by simp [loadVar,isAgg,run_underlying huInt,(h.at hi).2.2]) ho hx
theorem lg_bs1N {k:Int} (hw:Want ops E o true) (ho:o.op=.buildSlice 36 1 #[(0,x)]) (hx:val E x=some (nv k)) (hd:o.dst=some d) (hn:d<n)
  (h:∀ b w',New w w' b 3 #[nv k]->LG Tryz.prog ops Q n ((d,.slice (some ⟨b,0,none⟩) 1 1)::E) rest w'):LG Tryz.prog ops Q n E (o::rest) w:=by
 refine lg_do hw (fun n a ha=>?_) hd hn (h _ _ (New.of_alloc 3 #[nv k]));obtain ⟨i0,hi0,hz0,hz1,hz2⟩:=info_parts infoInt;simp [execOp,ho,Instr.buildSlice,ha.eval hx,run_underlying huIs,sizeOf,typeInfo,hi0,hz1,zeroValue,hz0,Value.cells,Instr.fill,newRow];first | kernel_rfl | (refine congrArg (fun q=>w.alloc (.cells q 3)) (Array.ext (by simp) fun i h1 h2=>?_);have:i=0:=by simpa using h2;subst this;simp)
end
theorem own_int {w:World} {base n c o:Nat} {xs:List Value} (h:w.ownsRow base 3 1 (.slice (some ⟨g,o,none⟩) n c) k xs):∃ cs,w.heap[g]?=some (.cells cs 3 (0,0)):=by
 rcases h.2 with ⟨e,_⟩ | ⟨g',cap,cur,e,_,hh,_⟩
 ·cases e
 injection e with e _ _
 injection e with e
 injection e with e _ _
 subst e;exact ⟨cur,hh⟩
/- WkS:
  Slices of octets as one letter each, strings of octets, results of several kinds, calls that write two blocks.
-/
structure SlV where
 A:Option Addr
 m:Nat
 c:Nat
abbrev SlV.v (s:SlV):Value:=.slice s.A s.m s.c
abbrev nilS:SlV:=⟨none,0,0⟩
abbrev Bytes (xs:List Int):Prop:=∀ x∈xs,0<=x/\x<=255
def Sl (w:World) (B:Nat) (s:SlV) (xs:List Int):Prop:=s.m<=s.c/\s.c<=maxLen/\Oct w B s.A s.m xs
section
variable {w w':World} {B B':Nat} {s:SlV} {xs ys:List Int}
theorem Sl.len (h:Sl w B s xs):xs.length=s.m:=h.2.2.1
theorem Sl.cap (h:Sl w B s xs):s.m<=s.c/\s.c<=9223372036854775807:=⟨h.1,by have:=h.2.1;unfold maxLen at this;omega⟩
theorem Sl.bytes (h:Sl w B s xs):Bytes xs:=h.2.2.2.1
theorem Sl.below (h:Sl w B s xs) (b:Below B w w'):Sl w' B s xs:=⟨h.1,h.2.1,h.2.2.below b⟩
theorem Sl.more (h:Sl w B s xs) (b:B<=B'):Sl w B' s xs:=⟨h.1,h.2.1,h.2.2.more b⟩
theorem Sl.mW (h:Sl w B s xs) (q:World) (b:B<=q.heap.size:=by omega):Sl w q.heap.size s xs:=h.more b
theorem Sl.nil (w:World) (B:Nat):Sl w B nilS []:=⟨Nat.le_refl _,Nat.zero_le _,Oct.nil _ _ _⟩
theorem Sl.cast (h:Sl w B s xs) (e:xs=ys):Sl w B s ys:=e▸h
theorem Sl.mk {c:Nat} (h1:m<=c) (h2:c<=maxLen) (h3:Oct w B A m xs):Sl w B ⟨A,m,c⟩ xs:=⟨h1,h2,h3⟩
theorem Sl.head (h:Sl w B s xs) (k:Nat) (hk:k<=s.m):Sl w B ⟨s.A,k,s.c⟩ (xs.take k):=⟨Nat.le_trans hk h.1,h.2.1,h.2.2.upto k hk⟩
theorem Sl.tail (h:Sl w B s xs) (k:Nat) (hk:k<=s.m):Sl w B ⟨cutA s.A k s.c,s.m-k,s.c-k⟩ (xs.drop k):=⟨Nat.sub_le_sub_right h.1 k,Nat.le_trans (Nat.sub_le _ _) h.2.1,h.2.2.cutA k _ h.1 hk⟩
def noU8:Value->Bool
 | .int .u8 _=>false
 | _=>true
theorem noOct_of {cs:Array Value} (h:cs.toList.all noU8=true):NoOct cs:=by
 intro i z e;have h1:=List.all_eq_true.1 h (.int .u8 z) (by
  rw [<-Array.getElem?_toList] at e;exact List.mem_of_getElem? e)
 simp [noU8] at h1
theorem Sl.set {c:Nat} {old new:Array Value} (h:Sl w B s xs) (r:RowAt w c t old) (no:old.toList.all noU8=true) (st:Set1 w w' c t' new):Sl w' B s xs:=⟨h.1,h.2.1,h.2.2.set r (noOct_of no) st⟩
theorem own_Sl {base n:Nat} {v:Value} (h:w.ownsRow base 5 1 v n (ys.map (Value.int .u8))) (hy:Bytes ys):∃ s:SlV,v=s.v/\Sl w w.heap.size s ys:=by
 obtain ⟨A,cap,rfl,h1,h2,h3⟩:=own_sl h hy;exact ⟨⟨A,n,cap⟩,rfl,h1,h2,h3⟩
theorem Bytes.app (h:Bytes xs) (h':Bytes ys):Bytes (xs++ys):=fun y hy=>(List.mem_append.1 hy).elim (h y) (h' y)
theorem Bytes.nil:Bytes []:=fun y hy=>by cases hy
theorem u8map_inj:∀ {xs ys:List Int},Bytes xs->Bytes ys->(xs.map fun n=>UInt8.ofNat n.toNat)=(ys.map fun n=>UInt8.ofNat n.toNat)->xs=ys
 | [],[],_,_,_=>rfl
 | [],_::_,_,_,h=>by simp at h
 | _::_,[],_,_,h=>by simp at h
 | x::xs,y::ys,hx,hy,h=>by
  simp only [List.map_cons,List.cons.injEq] at h;have h1:=hx x (by simp);have h2:=hy y (by simp);have h3:(UInt8.ofNat x.toNat).toNat=(UInt8.ofNat y.toNat).toNat:=congrArg UInt8.toNat h.1;simp only [UInt8.toNat_ofNat'] at h3;rw [u8map_inj (fun z hz=>hx z (by simp [hz])) (fun z hz=>hy z (by simp [hz])) h.2];have:x=y:=by omega
  rw [this]
end

section
variable {P:Program} {ops:Array Oper} {Q:Exit->Act->World->Prop} {n d:Nat} {E:Env} {o:Oper} {rest:List Oper} {w w0:World} {v:Value} {x y:Operand} {t t':TypeId} {B:Nat} {s:SlV} {xs ys:List Int}
theorem y_lenS {el:TypeId} (h:Sl w0 B s xs) (hu:P.underlying t=some (.slice el):=by kernel_rfl) (ho:o.op=.call { callee:=.builtin .len,args:=#[x],argTypes:=#[t] }:=by rfl) (hx:val E x=some s.v:=by rfl):Yields P E o w (nv (xs.length:Int)) :=
 yv (by rw [h.len]) (y_len hu ho hx)
theorem y_lenM {el:TypeId} {n:Nat} (hn:n=s.m) (hu:P.underlying t=some (.slice el):=by kernel_rfl) (ho:o.op=.call { callee:=.builtin .len,args:=#[x],argTypes:=#[t] }:=by rfl) (hx:val E x=some s.v:=by rfl):Yields P E o w (nv (n:Int)) :=
 yv (by rw [hn]) (y_len hu ho hx)
theorem y_ixR {el:TypeId} {b off i:Nat} {iI:Int} (hA:s.A=some ⟨b,off,none⟩) (hu:P.underlying t=some (.slice el)) (hs:(P.info? el).map (·.size)=some k) (e:iI=i) (hi:i<s.m) (ho:o.op=.indexAddr t x y:=by rfl) (hx:val E x=some s.v:=by rfl) (hy:val E y=some (nv iI):=by rfl):Yields P E o w (pv b (off+i*k)) :=
 y_ix (by
  subst e;cases hq:P.info? el with
  | none=>simp [hq] at hs
  | some it =>
   have hz:it.size=k:=by simpa [hq] using hs
   simp [SlV.v,hA,Instr.indexAt,asIntOf,run_underlying hu,Instr.sureAddr,sizeOf,typeInfo,hq,hz,hi,Addr.add]
   try exact fun e=>by omega) ho hx hy
theorem y_seqS (h:Bytes xs) (h':Bytes ys) (ho:o.op=.binOp .eql t x y t':=by rfl) (hx:val E x=some (.string (strOfNums xs)):=by rfl) (hy:val E y=some (.string (strOfNums ys)):=by rfl):Yields P E o w (.bool (decide (xs=ys))) :=
 yb (by
  by_cases e:xs=ys
  ·subst e;simp
  rw [decide_eq_false e];rw [beq_eq_false_iff_ne];intro q;rw [Lib.strOfNums_toList,Lib.strOfNums_toList] at q;exact e (u8map_inj h h' q)) (y_streq ho hx hy)
def maskK (m:Int) (c:Nat):Nat:=(BitVec.ofInt 64 m &&& BitVec.ofNat 64 c).toNat
theorem y_maskW {m:Int} (c:Nat) (hc:c<9223372036854775808:=by decide) (ho:o.op=.binOp .and t x y t':=by rfl) (hx:val E x=some (nv m):=by rfl) (hy:val E y=some (.int .i64 (c:Int)):=by rfl):Yields P E o w (nv ((maskK m c:Nat):Int)) :=
 y_bin (fun x y w=>by
  show Result.ok (Value.int .i64 (IntKind.i64.wrap ((BitVec.ofInt 64 m &&& BitVec.ofInt 64 (c:Int)).toNat:Nat))) w=_;rw [BitVec.ofInt_natCast];have h1:(BitVec.ofInt 64 m &&& BitVec.ofNat 64 c).toNat<=c:=by
   rw [BitVec.toNat_and,BitVec.toNat_ofNat,Nat.mod_eq_of_lt (by omega)];exact Nat.and_le_right
  rw [wrap_i64 (by omega) (by omega)];rfl) ho hx hy
theorem yi_addW {r s:Int} (ho:o.op=.binOp .add t x y t':=by rfl) (hx:val E x=some (nv r):=by rfl) (hy:val E y=some (nv s):=by rfl):Yields P E o w (nv (IntKind.i64.wrap (r+s))):=y_bin (fun x y w=>rfl) ho hx hy
theorem hgs_two {S:World->Prop} {fuel:Nat} {listed:Array Bool} (i j:Nat) (ho:ops[i]?=some o) (ho':ops[j]?=some o') (hr:Region.ready .any ops listed=[i,j]) (hw:Want ops E o true) (hw':Want ops E o' true)
  (h:LG P ops (Exit.then (fun a w'=>S w'/\wpAnyH P .any ops Q S fuel (listed.setIfInBounds i true) a w') Q) n E [o] w)
  (h':LG P ops (Exit.then (fun a w'=>S w'/\wpAnyH P .any ops Q S fuel (listed.setIfInBounds j true) a w') Q) n E [o'] w):HGS P ops Q S n (fuel+1) listed E w:=by
 intro a ha;refine wpAnyH_all hr (by simp) fun k hk=>?_;rcases (by simpa using hk:k=i\/k=j) with rfl | rfl
 ·exact op_of_lg k ho hw ha h
 exact op_of_lg k ho' hw' ha h'
-- results of several kinds
theorem run_load_agg {b:Nat} {tr:TypeId} {cs:Array Value} (hr:RowAt w b tr cs) (hu:aggB P t=some true) (hi:(P.info? t).map (·.size)=some cs.size):(loadVar t ⟨b,0,none⟩).run P w=.ok (.agg cs) w:=by
 unfold aggB at hu;cases hq:P.underlying t with
 | none=>simp [hq] at hu
 | some dd =>
  rw [hq] at hu;exact run_loadVar_row w b tr t cs _ dd hr hq (by cases dd<;>first | rfl | (simp at hu)) hi
theorem y_loadA {b:Nat} {tr:TypeId} {cs:Array Value} (hr:RowAt w b tr cs) (hu:aggB P t=some true:=by kernel_rfl) (hi:(P.info? t).map (·.size)=some cs.size:=by kernel_rfl) (ho:o.op=.load t x:=by rfl) (hx:val E x=some (pv b 0):=by rfl):Yields P E o w (.agg cs) :=
 y_load (run_load_agg hr hu hi) ho hx
theorem y_loadC {b:Nat} {cs:Array Value} (hc:∀ k u,cs[k]?=some u->w.cell? ⟨b,j+k,none⟩=some u) (hu:aggB P t=some true:=by kernel_rfl) (hi:(P.info? t).map (·.size)=some cs.size:=by kernel_rfl) (ho:o.op=.load t x:=by rfl) (hx:val E x=some (pv b j):=by rfl):Yields P E o w (.agg cs) :=
 y_load (by
  have hd:∀ k u,cs.toList[k]?=some u->w.cell? ((⟨b,j,none⟩:Addr).add k)=some u:=by
   intro k u hk;rw [Addr.add_lit];exact hc k u (by rw [<-Array.getElem?_toList];exact hk)
  cases hq:P.info? t with
  | none=>simp [hq] at hi
  | some i =>
   have hz:i.size=cs.size:=by simpa [hq] using hi
   have hl:=run_loadCells_list (P:=P) w ⟨b,j,none⟩ cs.toList hd;rw [Array.length_toList] at hl;simp [loadVar,run_isAgg hu,sizeOf,typeInfo,hq,hz,hl]) ho hx
theorem eg_ret_tmp3 {fn:Func} {p r:Tmp} {z:Value} (h:fn.results=#[.tmp p,.tmp q,.tmp r]) (hp:look E p=some v) (hq:look E q=some u) (hr:look E r=some z) (hR:R (.returned (.tuple #[v,u,z])) w):∀ a,Holds n E a->bodyPost P fn R .ret a w :=
 fun a ha=>bodyPost_ret (by have h1:=ha.2.2 p _ hp;have h2:=ha.2.2 q _ hq;have h3:=ha.2.2 r _ hr;simp [results,h,h1,h2,h3]) ha.2.1 hR
theorem eg_ret_agg3 {fn:Func} {p r:Tmp} {ty tr:TypeId} {b:Nat} {cs:Array Value} {z:Value} (h:fn.results=#[.cell p ty,.tmp q,.tmp r]) (hp:look E p=some (pv b 0)) (hr:RowAt w b tr cs)
  (hu:aggB P ty=some true) (hi:(P.info? ty).map (·.size)=some cs.size) (hq:look E q=some u) (hz:look E r=some z) (hR:R (.returned (.tuple #[.agg cs,u,z])) w):∀ a,Holds n E a->bodyPost P fn R .ret a w :=
 fun a ha=>bodyPost_ret (by
  have h1:=ha.2.2 p _ hp;have h2:=ha.2.2 q _ hq;have h3:=ha.2.2 r _ hz;have e:(asAddr (pv b 0)).run P w=.ok ⟨b,0,none⟩ w:=rfl;simp only [results,h];simp [h1,h2,h3,Sem.run_bind,Result.andThen,e,run_load_agg hr hu hi]) ha.2.1 hR
theorem eg_ret_agg2 {fn:Func} {p:Tmp} {ty tr:TypeId} {b:Nat} {cs:Array Value} (h:fn.results=#[.cell p ty,.tmp q]) (hp:look E p=some (pv b 0)) (hr:RowAt w b tr cs)
  (hu:aggB P ty=some true) (hi:(P.info? ty).map (·.size)=some cs.size) (hq:look E q=some u) (hR:R (.returned (.tuple #[.agg cs,u])) w):∀ a,Holds n E a->bodyPost P fn R .ret a w :=
 fun a ha=>bodyPost_ret (by
  have h1:=ha.2.2 p _ hp;have h2:=ha.2.2 q _ hq;have e:(asAddr (pv b 0)).run P w=.ok ⟨b,0,none⟩ w:=rfl;simp only [results,h];simp [h1,h2,Sem.run_bind,Result.andThen,e,run_load_agg hr hu hi]) ha.2.1 hR
structure But2 (w w':World) (b c:Nat):Prop where
 size:w.heap.size<=w'.heap.size
 other:∀ k,k<w.heap.size->k≠b->k≠c->w'.heap[k]?=w.heap[k]?
 below:∀ B,B<=b->B<=c->B<=w.heap.size->Below B w w'
theorem But2.keep {b c:Nat} {cs':Array Value} (h:But2 w w' b c) (r:RowAt w b' t cs') (e:b'≠b) (e':b'≠c):RowAt w' b' t cs':=by
 unfold RowAt;rw [h.other b' r.lt e e'];exact r
theorem But2.refl (b c:Nat):But2 w w b c:=⟨Nat.le_refl _,fun _ _ _ _=>rfl,fun B _ _ _=>Below.refl _ _⟩
theorem But2.grow {v:World} {b c:Nat} (h:But2 w v b c) (g:Below v.heap.size v w'):But2 w w' b c :=
 ⟨Nat.le_trans h.size g.size,fun k hk e e'=>(g.block k (Nat.lt_of_lt_of_le hk h.size)).trans (h.other k hk e e'),fun B h1 h2 h3=>(h.below B h1 h2 h3).trans (g.mono (Nat.le_trans h3 h.size))⟩
theorem But2.set {v:World} {b c:Nat} {cs:Array Value} (h:But2 w v b c) (s:Set1 v w' k t cs) (hc:w.heap.size<=k\/k=b\/k=c):But2 w w' b c :=
 ⟨by rw [s.size];exact h.size,fun j hj e e'=>(s.other j (by omega)).trans (h.other j hj e e'),fun B h1 h2 h3=>(h.below B h1 h2 h3).trans (s.below B (by omega))⟩
end
section
variable {ops:Array Oper} {Q:Exit->Act->World->Prop} {n d:Nat} {E:Env} {o:Oper} {rest:List Oper} {w w0:World} {v:Value} {x y:Operand} {t t':TypeId} {B:Nat} {s:SlV} {xs ys:List Int}
theorem y_strS (h:Sl w B s xs) (ho:o.op=.convert 26 9 x:=by rfl) (hx:val E x=some s.v:=by rfl):Yields Tryz.prog E o w (.string (strOfNums xs)):=y_str h.2.2 ho hx
theorem y_cutS_h (k:Nat) {hi:Int} (e:hi=k) (hk:k<=s.c) (ho:o.op=.slice 26 x none (some y) none:=by rfl) (hx:val E x=some s.v:=by rfl) (hy:val E y=some (nv hi):=by rfl):Yields Tryz.prog E o w (⟨s.A,k,s.c⟩:SlV).v:=y_cut_h k e hk ho hx hy
theorem lg_appS {base:Nat} (hown:w.ownsRow base 5 1 u xs.length (xs.map (Value.int .u8))) (hb1:Bytes xs) (hO:Sl w B s ys) (hb:xs.length+ys.length<=70368744177664) (hbase:base<=w.heap.size) (hw:Want ops E o true)
  (ho:o.op=.call { callee:=.builtin .append,args:=#[x,y],argTypes:=#[26,26] }) (hty:o.type=26) (hx:val E x=some u) (hy:val E y=some s.v) (hd:o.dst=some d) (hn:d<n)
  (h:∀ (r:SlV) w',Sl w' w'.heap.size r (xs++ys)->w'.ownsRow base 5 1 r.v (xs++ys).length ((xs++ys).map (Value.int .u8))->Below base w w'->w.heap.size<=w'.heap.size->LG Tryz.prog ops Q n ((d,r.v)::E) rest w'):LG Tryz.prog ops Q n E (o::rest) w:=by
 obtain ⟨v',w',hrun,hj⟩:=append_oct w base u xs ys s.A s.m s.c B hown hO.2.2 (by rw [<-hO.len];exact hb) hbase;have h1:w'.ownsRow base 5 1 v' (xs++ys).length ((xs++ys).map (Value.int .u8)):=by rw [List.length_append];exact hj.1
 obtain ⟨r,rfl,hr⟩:=own_Sl h1 (hb1.app hO.bytes);refine lg_do hw (fun n a ha=>?_) hd hn (h r w' hr h1 (joined_below hown hj (Below.refl _ _) hbase).1 hj.2.1.size);simp [execOp,ho,hty,resolve,invoke,builtin,ha.eval hx,ha.eval hy,hrun,Result.andThen]
end
/- WkT:
  Slices of whole numbers as one letter each.
-/
structure LowB where
 b:Nat
abbrev Lo:=Inhabited LowB
abbrev lowB [Lo]:Nat:=(default:LowB).b
def Ty [Lo] (w:World) (s:SlV):Prop:=0<s.m->∀ p,s.A=some p->p.block<lowB\/∃ cs,w.heap[p.block]?=some (.cells cs 3 (0,0))
theorem Ty.nil [Lo] (w:World):Ty w nilS:=fun h=>absurd h (Nat.lt_irrefl 0)
theorem Ty.same [Lo] {w:World} {s:SlV} (h:Ty w s) (e:0<s.m->∀ p,s.A=some p->w'.heap[p.block]?=w.heap[p.block]?):Ty w' s:=fun hm p hp=>(h hm p hp).imp (fun q=>q) fun ⟨cs,q⟩=>⟨cs,(e hm p hp).trans q⟩
def SlN [Lo] (w:World) (B:Nat) (s:SlV) (xs:List Int):Prop:=s.m<=s.c/\(s.c<=maxLen/\Ty w s)/\Nums w B s.A s.m xs
section
variable {w w':World} {B B':Nat} {s:SlV} {xs ys:List Int}
theorem SlN.len [Lo] (h:SlN w B s xs):xs.length=s.m:=h.2.2.1
theorem SlN.cap [Lo] (h:SlN w B s xs):s.m<=s.c/\s.c<=9223372036854775807:=⟨h.1,by have:=h.2.1.1;unfold maxLen at this;omega⟩
theorem SlN.blk [Lo] (h:SlN w B s xs) (hm:0<s.m) {p:Addr} (hp:s.A=some p):p.block<B:=by
 obtain ⟨b,off,e,hB,_⟩:=h.2.2.2 hm;rw [e] at hp;obtain rfl:p=⟨b,off,none⟩:=(Option.some.inj hp).symm;exact hB
theorem SlN.ty [Lo] (h:SlN w B s xs):Ty w s:=h.2.1.2
theorem SlN.below [Lo] (h:SlN w B s xs) (b:Below B w w'):SlN w' B s xs:=⟨h.1,⟨h.2.1.1,h.ty.same fun hm p hp=>b.block _ (h.blk hm hp)⟩,h.2.2.below b⟩
theorem SlN.more [Lo] (h:SlN w B s xs) (b:B<=B'):SlN w B' s xs:=⟨h.1,h.2.1,h.2.2.more b⟩
theorem SlN.mW [Lo] (h:SlN w B s xs) (q:World) (b:B<=q.heap.size:=by omega):SlN w q.heap.size s xs:=h.more b
theorem SlN.nil [Lo] (w:World) (B:Nat):SlN w B nilS []:=⟨Nat.le_refl _,⟨Nat.zero_le _,Ty.nil _⟩,Nums.nil _ _ _⟩
theorem SlN.cast [Lo] (h:SlN w B s xs) (e:xs=ys):SlN w B s ys:=e▸h
def noNum:Value->Bool
 | .int .u8 _=>false
 | .int .i64 _=>false
 | _=>true
theorem noU8_of {l:List Value} (h:l.all noNum=true):l.all noU8=true:=by
 rw [List.all_eq_true] at h ⊢;intro v hv;have:=h v hv;cases v with
 | int k z=>cases k<;>first | rfl | (simp [noNum] at this)
 | _=>rfl
theorem SlN.other [Lo] {c:Nat} {new:Array Value} (h:SlN w B s xs) (hc:0<s.m->∀ p,s.A=some p->p.block≠c) (st:Set1 w w' c t' new):SlN w' B s xs:=by
 refine ⟨h.1,⟨h.2.1.1,h.ty.same fun hm p hp=>st.other _ (hc hm p hp)⟩,h.2.2.1,fun hm=>?_⟩;obtain ⟨b,off,e,hB,hc2⟩:=h.2.2.2 hm;refine ⟨b,off,e,hB,fun i z hz=>?_⟩;rw [<-hc2 i z hz];unfold World.cell?;rw [st.other b (hc hm _ e)]
theorem SlN.set [Lo] {c:Nat} {old new:Array Value} (h:SlN w B s xs) (r:RowAt w c t old) (no:old.toList.all noNum=true) (st:Set1 w w' c t' new):SlN w' B s xs:=by
 refine h.other (fun hm p hp e2=>?_) st;obtain ⟨b,off,e,hB,hc⟩:=h.2.2.2 hm;rw [e] at hp;obtain rfl:p=⟨b,off,none⟩:=(Option.some.inj hp).symm;have e2:b=c:=e2;subst e2;have hl:=h.len;have h1:=hc 0 xs[0] (List.getElem?_eq_getElem (by omega));rw [cell_of_row w b (off+0) old t _ r,<-Array.getElem?_toList] at h1;have h2:=List.all_eq_true.1 no _ (List.mem_of_getElem? h1);simp [noNum] at h2
theorem SlN.box [Lo] {c:Nat} {old new:Array Value} (h:SlN w B s xs) (r:RowAt w c t old) (ht:t≠3) (hc:lowB<=c) (st:Set1 w w' c t' new):SlN w' B s xs :=
 h.other (fun hm p hp e=>(h.ty hm p hp).elim (fun q=>by omega) fun ⟨cs,q⟩=>by
  unfold RowAt at r;rw [e,r] at q;simp only [Option.some.injEq,Obj.cells.injEq] at q;exact ht q.2.1) st
def Fr (a:Nat) (s:SlV):Prop:=∀ p,s.A=some p->a<=p.block
def Old (B:Nat) (s:SlV):Prop:=0<s.m->∀ p,s.A=some p->p.block<B
theorem Old.nil (B:Nat):Old B nilS:=fun h=>absurd h (Nat.lt_irrefl 0)
theorem Sl.old {w:World} {s:SlV} (h:Sl w B s xs):Old B s:=fun h0 p e=>by
 obtain ⟨b,o,e2,hb,_⟩:=h.2.2.2.2 h0;rw [e2] at e;obtain rfl:p=⟨b,o,none⟩:=(Option.some.inj e).symm;exact hb
theorem Fr.nil (a:Nat):Fr a nilS:=fun p e=>by cases e
theorem Fr.le {a b:Nat} {s:SlV} (h:Fr a s) (e:b<=a):Fr b s:=fun p q=>Nat.le_trans e (h p q)
theorem SlN.setf [Lo] {c a:Nat} {new:Array Value} (h:SlN w B s xs) (f:Fr a s) (hc:c<a) (st:Set1 w w' c t' new):SlN w' B s xs :=
 h.other (fun _ p e q=>by
  have:=f _ e;omega) st
theorem SlN.tail [Lo] (h:SlN w B s xs) (k:Nat) (hk:k<=s.m):SlN w B ⟨cutA s.A k s.c,s.m-k,s.c-k⟩ (xs.drop k):=⟨Nat.sub_le_sub_right h.1 k,⟨Nat.le_trans (Nat.sub_le _ _) h.2.1.1,fun hm p hp=>by
 have hm:0<s.m-k:=hm;have hp:cutA s.A k s.c=some p:=hp;obtain ⟨b,off,e,hB,_⟩:=h.2.2.2 (by omega);have q:=h.ty (by omega) _ e;have e2:p.block=b:=by
  rw [e] at hp;unfold cutA at hp;split at hp
  ·cases hp;rfl
  cases hp;simp only [Addr.add];split<;>rfl
 rw [e2];exact q⟩,h.2.2.cutA k _ h.1 hk⟩
theorem SlN.head [Lo] (h:SlN w B s xs) (k:Nat) (hk:k<=s.m):SlN w B ⟨s.A,k,s.c⟩ (xs.take k):=⟨Nat.le_trans hk h.1,⟨h.2.1.1,fun hm p hp=>h.ty (Nat.lt_of_lt_of_le hm hk) p hp⟩,h.2.2.head k hk⟩
theorem own_SlN [Lo] {base n:Nat} {v:Value} (h:w.ownsRow base 3 1 v n (ys.map (Value.int .i64))):∃ s:SlV,v=s.v/\SlN w w.heap.size s ys:=by
 have hl:ys.length=n:=by simpa using h.1
 rcases h.2 with ⟨rfl,h0⟩ | ⟨g,cap,cur,rfl,hg,hh,h1,h2,_⟩
 ·have e:ys=[]:=List.eq_nil_of_length_eq_zero (by omega);subst e;exact ⟨nilS,rfl,SlN.nil _ _⟩
 refine ⟨⟨some ⟨g,0,none⟩,n,cap⟩,rfl,h1,⟨h2,fun _ p hp=>.inr ⟨cur,by obtain rfl:p=⟨g,0,none⟩:=(Option.some.inj hp).symm;exact hh⟩⟩,hl,fun hn=>⟨g,0,rfl,(h.lt g rfl).2,fun i x hx=>?_⟩⟩;have:=h.cells (g:=g) rfl i (.int .i64 x) (by rw [List.getElem?_map,hx];rfl);rwa [Addr.add_lit] at this
theorem append_nums (w:World) (base:Nat) (v:Value) (xs ys:List Int) (A:Option Addr) (m c B:Nat) (hown:w.ownsRow base 3 1 v xs.length (xs.map (Value.int .i64))) (hO:Nums w B A m ys)
  (hb:xs.length+m<=1000000000000) (hbase:base<=w.heap.size) :
  ∃ v' w',(Builtin.append_ #[36,36] 36 #[v,.slice A m c]).run Tryz.prog w=.ok v' w'/\w'.ownsRow base 3 1 v' (xs++ys).length ((xs++ys).map (Value.int .i64))/\w.grownBy w' v.ownBlock:=by
 obtain ⟨i0,hi0,hz0,hz1,hz2⟩:=info_parts infoInt;have hm:=hO.1;by_cases h0:m=0/\A=none
 ·obtain ⟨rfl,rfl⟩:=h0;have hy:ys=[]:=List.eq_nil_of_length_eq_zero hm;subst hy;refine ⟨v,w,?_,by simpa using hown,World.grownBy.refl w _⟩;rcases hown.2 with ⟨rfl,_⟩ | ⟨g,cap,cur,rfl,_,_,hnc,_⟩
  ·simp [Builtin.append_,run_underlying huIs,sizeOf,typeInfo,hi0,Builtin.lenOf,Builtin.firstCells]
  simp [Builtin.append_,run_underlying huIs,sizeOf,typeInfo,hi0,Builtin.lenOf,Builtin.firstCells,hnc,storeCells]
 have hA:∃ ad,A=some ad/\∀ j u,(ys.map (Value.int .i64))[j]?=some u->w.cell? (ad.add j)=some u:=by
  by_cases hm0:m=0
  ·cases A with
   | none=>exact absurd ⟨hm0,rfl⟩ h0
   | some ad =>
    have hy:ys=[]:=List.eq_nil_of_length_eq_zero (by omega);subst hy;exact ⟨ad,rfl,by simp⟩
  obtain ⟨b,o,rfl,_,hc⟩:=hO.2 (by omega);refine ⟨_,rfl,fun j u hu=>?_⟩;rw [List.getElem?_map,Option.map_eq_some_iff] at hu;obtain ⟨x,hx,rfl⟩:=hu;rw [Addr.add_lit];exact hc j x hx
 obtain ⟨ad,rfl,hc⟩:=hA;obtain ⟨v',w',hrun,h1,h2,_,h3⟩:=run_append_own_at (P:=Tryz.prog) w base 36 36 3 i0 _ 1 8 huIs hi0 hz0 hz1 hz2 rfl (by omega) v _ _ hown ad m c (ys.map (Value.int .i64)) (by simp [hm]) hc (ints_oneCell _ _) (by unfold maxLen;omega) (by omega) hbase;refine ⟨v',w',hrun,?_,h2⟩;rw [List.map_append,List.length_append,hm];exact h1
end
section
variable {ops:Array Oper} {Q:Exit->Act->World->Prop} {n d:Nat} {E:Env} {o:Oper} {rest:List Oper} {w w0:World} {v:Value} {x y:Operand} {t t':TypeId} {B:Nat} {s:SlV} {xs ys:List Int}
theorem y_ixT [Lo] {i:Nat} {iI:Int} (h:SlN w B s xs) (e:iI=i) (hi:i<xs.length) (ho:o.op=.indexAddr 36 x y:=by rfl) (hx:val E x=some s.v:=by rfl) (hy:val E y=some (nv iI):=by rfl):Yields Tryz.prog E o w (pv (blk s.A) (off s.A+i)) :=
 y_ixN h.2.2 e (by rw [<-h.len];exact hi) ho hx hy
theorem y_ldT [Lo] {i:Nat} (h:SlN w B s xs) (hi:i<xs.length) (ho:o.op=.load 3 x:=by rfl) (hx:val E x=some (pv (blk s.A) (off s.A+i)):=by rfl):Yields Tryz.prog E o w (nv (xs.getD i 0)) :=
 y_ldN h.2.2 (by rw [<-h.len];exact hi) ho hx
theorem lg_appT [Lo] {base:Nat} (hown:w.ownsRow base 3 1 u xs.length (xs.map (Value.int .i64))) (hO:SlN w B s ys) (hb:xs.length+ys.length<=1000000000000) (hbase:base<=w.heap.size) (hw:Want ops E o true)
  (ho:o.op=.call { callee:=.builtin .append,args:=#[x,y],argTypes:=#[36,36] }) (hty:o.type=36) (hx:val E x=some u) (hy:val E y=some s.v) (hd:o.dst=some d) (hn:d<n)
  (h:∀ (r:SlV) w',SlN w' w'.heap.size r (xs++ys)->w'.ownsRow base 3 1 r.v (xs++ys).length ((xs++ys).map (Value.int .i64))->Below base w w'->w.heap.size<=w'.heap.size->LG Tryz.prog ops Q n ((d,r.v)::E) rest w'):LG Tryz.prog ops Q n E (o::rest) w:=by
 obtain ⟨v',w',hrun,h1,hg⟩:=append_nums w base u xs ys s.A s.m s.c B hown hO.2.2 (by rw [<-hO.len];exact hb) hbase;obtain ⟨r,rfl,hr⟩:=own_SlN h1;refine lg_do hw (fun n a ha=>?_) hd hn (h r w' hr h1 ((Below.refl _ _).grown hg hbase (fun k hk=>(hown.lt k hk).1)) hg.size);simp [execOp,ho,hty,resolve,invoke,builtin,ha.eval hx,ha.eval hy,hrun,Result.andThen]
theorem new_SlN [Lo] {b:Nat} {cs:Array Value} (r:RowAt w b 3 cs) (hc:cs.toList=xs.map (Value.int .i64)) (hm:xs.length<=maxLen):SlN w (b+1) ⟨some ⟨b,0,none⟩,xs.length,xs.length⟩ xs :=
 ⟨Nat.le_refl _,⟨hm,fun _ p hp=>.inr ⟨cs,by obtain rfl:p=⟨b,0,none⟩:=(Option.some.inj hp).symm;exact r⟩⟩,rfl,fun _=>⟨b,0,rfl,by omega,fun i z hi=>by
  rw [Nat.zero_add,cell_of_row w b i cs 3 _ r,<-Array.getElem?_toList,hc,List.getElem?_map,hi];rfl⟩⟩
end
/- WkU:
  Rows of whole numbers of one's own, as they are laid; what is told of a list place by place.
-/
section
variable {ops:Array Oper} {Q:Exit->Act->World->Prop} {n d:Nat} {E:Env} {o:Oper} {rest:List Oper} {w w0:World} {v:Value} {x y:Operand}
theorem new_ownN {b:Nat} {cs:Array Value} (h:New w w' b 3 cs) (hc:cs.toList=xs.map (Value.int .i64)) (hm:xs.length<=maxLen):w'.ownsRow b 3 1 (.slice (some ⟨b,0,none⟩) xs.length xs.length) xs.length (xs.map (Value.int .i64)) :=
 ⟨by simp,.inr ⟨b,xs.length,cs,rfl,Nat.le_refl _,h.row,Nat.le_refl _,hm,by rw [<-Array.length_toList,hc];simp,by rw [hc,Nat.mul_one,List.take_of_length_le (by simp)]⟩⟩
end
section
variable {P:Program} {ops:Array Oper} {Q:Exit->Act->World->Prop} {n d:Nat} {E:Env} {o:Oper} {rest:List Oper} {w w0:World} {v:Value} {x y:Operand} {t t':TypeId}
theorem lg_bsliceW {el:TypeId} {len:Nat} {parts:Array (Nat × Operand)} {z:Value} {cs:Array Value} (hw:Want ops E o true) (hu:P.underlying t=some (.slice el)) (hz:(P.info? el).map (fun i=>(i.zero,i.size))=some (some z,1)) (hl:0<len) (hl':len<=1000)
  (ho:o.op=.buildSlice t len parts) (hx:vals E (parts.toList.map (·.2))=some vs) (hf:Instr.fill (fun i=>some (i*1,1)) ((Array.range (len*1)).map (fun k=>z.cells[k % z.cells.size]!)) ((parts.toList.map (·.1)).zip vs)=some cs)
  (hd:o.dst=some d) (hn:d<n)
  (h:∀ b w',New w w' b el cs->LG P ops Q n ((d,.slice (some ⟨b,0,none⟩) len len)::E) rest w'):LG P ops Q n E (o::rest) w:=by
 refine lg_do hw (fun n a ha=>?_) hd hn (h _ _ (New.of_alloc el cs));have e:(parts.map fun (i,x)=>(i,a.eval x)).toList=(parts.toList.map (·.1)).zip vs:=by
  rw [<-ha.evals hx];rw [List.map_map,List.zip_map',Array.toList_map];rfl
 unfold execOp;rw [ho];have hzz:=zero_of_info hz;cases hq:P.info? el with
 | none=>simp [hq] at hz
 | some it =>
  have hs1:it.size=1:=by simpa [hq] using hzz.2
  have h0:¬len=0:=by omega
  have h16:¬16777216<len:=by omega
  simp only [Instr.buildSlice,e];simp only [Nat.mul_one] at hf;simp [run_underlying hu,sizeOf,typeInfo,hq,hs1,h0,h16,hzz.1,hf,newRow]
end
theorem list_eq_getD (hl:xs.length=ys.length) (h:∀ i,i<xs.length->xs.getD i 0=ys.getD i 0):xs=ys:=by
 refine List.ext_getElem hl fun i h1 h2=>?_;have:=h i h1;simpa [List.getD_eq_getElem?_getD,h1,h2] using this
/- WkZ:
  The rules of a walk by shorter names.
-/
section
variable {P:Program} {ops:Array Oper} {Q:Exit->Act->World->Prop} {n d:Nat} {E:Env} {o:Oper} {rest:List Oper} {w w0:World} {v:Value} {x:Operand}
theorem za (hg:o.guard=none) (y:Yields P E o w v) (hd:o.dst=some d) (hn:Nat.ble (d+1) n=true) (h:LG P ops Q n ((d,v)::E) rest w):LG P ops Q n E (o::rest) w:=lsw (Qb hg) y hd (Nat.le_of_ble_eq_true hn) h
theorem zA (hg:o.guard=none) (ho:o.op=.assign x) (hx:val E x=some v) (hd:o.dst=some d) (hn:Nat.ble (d+1) n=true) (h:LG P ops Q n ((d,v)::E) rest w):LG P ops Q n E (o::rest) w:=za hg (y_assign ho hx) hd hn h
theorem zM (hg:o.guard=none) (ho:o.op=.move x) (hx:val E x=some v) (hd:o.dst=some d) (hn:Nat.ble (d+1) n=true) (h:LG P ops Q n ((d,v)::E) rest w):LG P ops Q n E (o::rest) w:=za hg (y_move ho hx) hd hn h
theorem zt {b:Bool} (dj:Nat) (hg:o.guard=some (j,b)) (hj:(ops[j]?).bind (·.dst)=some dj) (hy:look E dj=some (.bool b)) (y:Yields P E o w v) (hd:o.dst=some d) (hn:Nat.ble (d+1) n=true) (h:LG P ops Q n ((d,v)::E) rest w):LG P ops Q n E (o::rest) w:=lsw (want_t hg hj hy) y hd (Nat.le_of_ble_eq_true hn) h
theorem zf {b:Bool} (dj:Nat) (hg:o.guard=some (j,b)) (hj:(ops[j]?).bind (·.dst)=some dj) (hy:look E dj=some (.bool (!b))) (hd:o.dst=some d) (hn:Nat.ble (d+1) n=true) (h:LG P ops Q n ((d,undef)::E) rest w):LG P ops Q n E (o::rest) w:=lsk (want_f hg hj hy) hd (Nat.le_of_ble_eq_true hn) h
theorem zu {b:Bool} (dj:Nat) (hg:o.guard=some (j,b)) (hj:(ops[j]?).bind (·.dst)=some dj) (hy:look E dj=some undef) (hd:o.dst=some d) (hn:Nat.ble (d+1) n=true) (h:LG P ops Q n ((d,undef)::E) rest w):LG P ops Q n E (o::rest) w:=lsk (want_u hg hj hy) hd (Nat.le_of_ble_eq_true hn) h
theorem zsa {Q:Act->Prop} (hg:o.guard=none) (y:Yields P E o w v) (hd:o.dst=some d) (hn:Nat.ble (d+1) n=true) (h:SG P ops Q n ((d,v)::E) rest w):SG P ops Q n E (o::rest) w:=stw (Qb hg) y hd (Nat.le_of_ble_eq_true hn) h
theorem zst {Q:Act->Prop} {b:Bool} (dj:Nat) (hg:o.guard=some (j,b)) (hj:(ops[j]?).bind (·.dst)=some dj) (hy:look E dj=some (.bool b)) (y:Yields P E o w v) (hd:o.dst=some d) (hn:Nat.ble (d+1) n=true) (h:SG P ops Q n ((d,v)::E) rest w):SG P ops Q n E (o::rest) w:=stw (want_t hg hj hy) y hd (Nat.le_of_ble_eq_true hn) h
theorem zsf {Q:Act->Prop} {b:Bool} (dj:Nat) (hg:o.guard=some (j,b)) (hj:(ops[j]?).bind (·.dst)=some dj) (hy:look E dj=some (.bool (!b))) (hd:o.dst=some d) (hn:Nat.ble (d+1) n=true) (h:SG P ops Q n ((d,undef)::E) rest w):SG P ops Q n E (o::rest) w:=stk (want_f hg hj hy) hd (Nat.le_of_ble_eq_true hn) h
theorem zh {fuel:Nat} {listed:Array Bool} (i:Nat) (ho:ops[i]?=some o) (hg:o.guard=none) (hv:isVal o.op=true) (hd:o.dst=some d) (hn:Nat.ble (d+1) n=true)
  (hs:(Region.noSelect ops && (Region.free .any ops listed i && (Region.ready .any ops listed).contains i))=true)
  (hQ:∀ c a w,Q (.panic c) (a.put (some d) v) w->Q (.panic c) a w) (y:∀ w',Below w.heap.size w w'->Yields P E o w' v)
  (h:HG P ops Q w n fuel (listed.setIfInBounds i true) ((d,v)::E) w):HG P ops Q w n (fuel+1) listed E w:=by
 rw [Bool.and_eq_true,Bool.and_eq_true] at hs;exact hg_take i ho (Qb hg) hv hd (Nat.le_of_ble_eq_true hn) hs.1 hs.2.1 hs.2.2 hQ (Below.refl _ _) y h
theorem Za (y:Yields P E o w v) (h:LG P ops Q n ((d,v)::E) rest w) (hg:o.guard=none:=by rfl) (hd:o.dst=some d:=by rfl) (hn:Nat.ble (d+1) n=true:=by rfl):LG P ops Q n E (o::rest) w:=za hg y hd hn h
theorem ZA (h:LG P ops Q n ((d,v)::E) rest w) (hg:o.guard=none:=by rfl) (ho:o.op=.assign x:=by rfl) (hx:val E x=some v:=by rfl) (hd:o.dst=some d:=by rfl) (hn:Nat.ble (d+1) n=true:=by rfl):LG P ops Q n E (o::rest) w:=zA hg ho hx hd hn h
theorem ZM (h:LG P ops Q n ((d,v)::E) rest w) (hg:o.guard=none:=by rfl) (ho:o.op=.move x:=by rfl) (hx:val E x=some v:=by rfl) (hd:o.dst=some d:=by rfl) (hn:Nat.ble (d+1) n=true:=by rfl):LG P ops Q n E (o::rest) w:=zM hg ho hx hd hn h
theorem Zt {b:Bool} (dj:Nat) (y:Yields P E o w v) (h:LG P ops Q n ((d,v)::E) rest w) (hg:o.guard=some (j,b):=by rfl) (hj:(ops[j]?).bind (·.dst)=some dj:=by kernel_rfl) (hy:look E dj=some (.bool b):=by rfl) (hd:o.dst=some d:=by rfl) (hn:Nat.ble (d+1) n=true:=by rfl):LG P ops Q n E (o::rest) w:=zt dj hg hj hy y hd hn h
theorem Zsa {Q:Act->Prop} (y:Yields P E o w v) (h:SG P ops Q n ((d,v)::E) rest w) (hg:o.guard=none:=by rfl) (hd:o.dst=some d:=by rfl) (hn:Nat.ble (d+1) n=true:=by rfl):SG P ops Q n E (o::rest) w:=zsa hg y hd hn h
theorem Zst {Q:Act->Prop} {b:Bool} (dj:Nat) (y:Yields P E o w v) (h:SG P ops Q n ((d,v)::E) rest w) (hg:o.guard=some (j,b):=by rfl) (hj:(ops[j]?).bind (·.dst)=some dj:=by kernel_rfl) (hy:look E dj=some (.bool b):=by rfl) (hd:o.dst=some d:=by rfl) (hn:Nat.ble (d+1) n=true:=by rfl):SG P ops Q n E (o::rest) w:=zst dj hg hj hy y hd hn h
theorem Zsf {Q:Act->Prop} {b:Bool} (dj:Nat) (h:SG P ops Q n ((d,undef)::E) rest w) (hg:o.guard=some (j,b):=by rfl) (hj:(ops[j]?).bind (·.dst)=some dj:=by kernel_rfl) (hy:look E dj=some (.bool (!b)):=by rfl) (hd:o.dst=some d:=by rfl) (hn:Nat.ble (d+1) n=true:=by rfl):SG P ops Q n E (o::rest) w:=zsf dj hg hj hy hd hn h
theorem Zh {fuel:Nat} {listed:Array Bool} (i:Nat) (y:∀ w',Below w.heap.size w w'->Yields P E o w' v) (h:HG P ops Q w n fuel (listed.setIfInBounds i true) ((d,v)::E) w) (ho:ops[i]?=some o:=by rfl) (hg:o.guard=none:=by rfl) (hv:isVal o.op=true:=by rfl) (hd:o.dst=some d:=by rfl) (hn:Nat.ble (d+1) n=true:=by rfl)
  (hs:(Region.noSelect ops && (Region.free .any ops listed i && (Region.ready .any ops listed).contains i))=true:=by kernel_rfl) (hQ:∀ c a w,Q (.panic c) (a.put (some d) v) w->Q (.panic c) a w:=by exact fun _ _ _ h=>h):HG P ops Q w n (fuel+1) listed E w:=zh i ho hg hv hd hn hs hQ y h
theorem Zht {fuel:Nat} {listed:Array Bool} {b:Bool} (i dj:Nat) (y:∀ w',Below w.heap.size w w'->Yields P E o w' v) (h:HG P ops Q w n fuel (listed.setIfInBounds i true) ((d,v)::E) w) (ho:ops[i]?=some o:=by rfl) (hg:o.guard=some (j,b):=by rfl) (hj:(ops[j]?).bind (·.dst)=some dj:=by kernel_rfl) (hy:look E dj=some (.bool b):=by rfl) (hv:isVal o.op=true:=by rfl) (hd:o.dst=some d:=by rfl) (hn:Nat.ble (d+1) n=true:=by rfl)
  (hs:(Region.noSelect ops && (Region.free .any ops listed i && (Region.ready .any ops listed).contains i))=true:=by kernel_rfl) (hQ:∀ c a w,Q (.panic c) (a.put (some d) v) w->Q (.panic c) a w:=by exact fun _ _ _ h=>h):HG P ops Q w n (fuel+1) listed E w:=by
 rw [Bool.and_eq_true,Bool.and_eq_true] at hs;exact hg_take i ho (want_t hg hj hy) hv hd (Nat.le_of_ble_eq_true hn) hs.1 hs.2.1 hs.2.2 hQ (Below.refl _ _) y h
theorem Zo {fuel:Nat} {listed:Array Bool} (i:Nat) (h:LG P ops (Exit.then (fun a w'=>Keeps w0 w'/\wpAnyH P .any ops Q (Keeps w0) fuel (listed.setIfInBounds i true) a w') Q) n E [o] w) (ho:ops[i]?=some o:=by rfl) (hr:Region.ready .any ops listed=[i]:=by kernel_rfl) (hg:o.guard=none:=by rfl):HG P ops Q w0 n (fuel+1) listed E w:=hg_one i ho hr (Qb hg) h
theorem Zot {fuel:Nat} {listed:Array Bool} {b:Bool} (i dj:Nat) (h:LG P ops (Exit.then (fun a w'=>Keeps w0 w'/\wpAnyH P .any ops Q (Keeps w0) fuel (listed.setIfInBounds i true) a w') Q) n E [o] w) (ho:ops[i]?=some o:=by rfl) (hr:Region.ready .any ops listed=[i]:=by kernel_rfl) (hg:o.guard=some (j,b):=by rfl) (hj:(ops[j]?).bind (·.dst)=some dj:=by kernel_rfl) (hy:look E dj=some (.bool b):=by rfl):HG P ops Q w0 n (fuel+1) listed E w:=hg_one i ho hr (want_t hg hj hy) h
theorem Zc {f:FuncId} {xs:List Operand} {R:Value->World->Prop} (hc:Calls P f vs.toArray w fun e w'=>∃ v,e=.returned v/\R v w') (ho:o.op=.call { callee:=.value (.func f),args:=xs.toArray,argTypes:=ts }) (hx:vals E xs=some vs) (h:∀ v w',R v w'->LG P ops Q n ((d,v)::E) rest w') (hg:o.guard=none:=by rfl)
  (hf : ((P.funcs[f]?).map fun fn => (fn.name == "runtime.NumGoroutine", fn.body.isNone)) = some (false, false) := by kernel_rfl) (hd : o.dst = some d := by rfl) (hn : Nat.ble (d + 1) n = true := by rfl) : LG P ops Q n E (o :: rest) w := lg_callw (Qb hg) hc hf ho hx hd (Nat.le_of_ble_eq_true hn) h
theorem Zct {b:Bool} (dj:Nat) {f:FuncId} {xs:List Operand} {R:Value->World->Prop} (hc:Calls P f vs.toArray w fun e w'=>∃ v,e=.returned v/\R v w') (ho:o.op=.call { callee:=.value (.func f),args:=xs.toArray,argTypes:=ts }) (hx:vals E xs=some vs) (h:∀ v w',R v w'->LG P ops Q n ((d,v)::E) rest w') (hg:o.guard=some (j,b):=by rfl) (hj:(ops[j]?).bind (·.dst)=some dj:=by kernel_rfl) (hy:look E dj=some (.bool b):=by rfl)
  (hf : ((P.funcs[f]?).map fun fn => (fn.name == "runtime.NumGoroutine", fn.body.isNone)) = some (false, false) := by kernel_rfl) (hd : o.dst = some d := by rfl) (hn : Nat.ble (d + 1) n = true := by rfl) : LG P ops Q n E (o :: rest) w := lg_callw (want_t hg hj hy) hc hf ho hx hd (Nat.le_of_ble_eq_true hn) h
theorem Zr {y:Code} {id:Nat} {l:List Oper} (h:LG P l.toArray (Exit.then (y.wp P Q) Q) n E l w):CG P Q n E (.seq (.region id l.toArray false) y) w:=Qd (Qe h)
def pick (E:Env):List Nat->Option Env
 | []=>some []
 | k::r=>match look E k,pick E r with
  | some v,some q=>some ((k,v)::q)
  | _,_=>none
theorem pick_ok {E:Env}:∀ {ks:List Nat} {E':Env},pick E ks=some E'->∀ p∈E',look E p.1=some p.2
 | [],E',h=>by
  cases h;exact fn
 | k::r,E',h=>by
  unfold pick at h;cases h1:look E k with
  | none=>simp [h1] at h
  | some v =>
   cases h2:pick E r with
   | none=>simp [h1,h2] at h
   | some q =>
    simp only [h1,h2,Option.some.injEq] at h;subst h;exact fk h1 (pick_ok h2)
section
variable {E':Env} {y z:Code} {Q':Exit->Act->World->Prop} {c:Operand} (ks:List Nat)
theorem Nx (h:CG P Q n E' y w) (hE:pick E ks=some E':=by rfl):∀ a,Holds n E a->Exit.then (y.wp P Q) Q' .normal a w:=nx (pick_ok hE) h
theorem Zn (h:CG P Q n E' y w) (hE:pick E ks=some E':=by rfl):LG P ops (Exit.then (y.wp P Q) Q') n E [] w:=Qk (nx (pick_ok hE) h)
theorem Zki (h:CG P Q n E' y w) (hE:pick E ks=some E':=by rfl):CG P (Exit.then (y.wp P Q) Q') n E .skip w:=cg_skip (nx (pick_ok hE) h)
theorem Zcf (h:CG P Q n E' y w) (hE:pick E ks=some E':=by rfl) (hc:val E c=some (.bool false):=by rfl):CG P (Exit.then (y.wp P Q) Q') n E (.cond c z .skip) w:=cg_cf hc (cg_skip (nx (pick_ok hE) h))
theorem Znr (h:∀ a,Holds n E' a->Q .ret a w) (hE:pick E ks=some E':=by rfl):LG P ops (Exit.then (Code.ret.wp P Q) Q') n E [] w:=Zn ks (cg_ret h) hE
theorem Znt (h:CG P Q n E' y w) (hE:pick E ks=some E':=by rfl) (hc:val E' c=some (.bool true):=by rfl):LG P ops (Exit.then ((Code.cond c y z).wp P Q) Q') n E [] w:=Zn ks (cg_ct hc h) hE
theorem ZAn (h:CG P Q n E' y w) (hg:o.guard=none:=by rfl) (ho:o.op=.assign x:=by rfl) (hx:val E x=some v:=by rfl) (hd:o.dst=some d:=by rfl) (hn:Nat.ble (d+1) n=true:=by rfl) (hE:pick ((d,v)::E) ks=some E':=by rfl):LG P ops (Exit.then (y.wp P Q) Q') n E [o] w:=zA hg ho hx hd hn (Zn ks h hE)
theorem ZAnr (h:∀ a,Holds n E' a->Q .ret a w) (hg:o.guard=none:=by rfl) (ho:o.op=.assign x:=by rfl) (hx:val E x=some v:=by rfl) (hd:o.dst=some d:=by rfl) (hn:Nat.ble (d+1) n=true:=by rfl) (hE:pick ((d,v)::E) ks=some E':=by rfl):LG P ops (Exit.then (Code.ret.wp P Q) Q') n E [o] w:=zA hg ho hx hd hn (Znr ks h hE)
theorem ZAnt (h:CG P Q n E' y w) (hg:o.guard=none:=by rfl) (ho:o.op=.assign x:=by rfl) (hx:val E x=some v:=by rfl) (hd:o.dst=some d:=by rfl) (hn:Nat.ble (d+1) n=true:=by rfl) (hE:pick ((d,v)::E) ks=some E':=by rfl) (hc:val E' c=some (.bool true):=by rfl):LG P ops (Exit.then ((Code.cond c y z).wp P Q) Q') n E [o] w:=zA hg ho hx hd hn (Znt ks h hE hc)
end
theorem Zan {E':Env} {y:Code} (e:Yields P E o w v) (ks:List Nat) (h:CG P Q n E' y w) (hg:o.guard=none:=by rfl) (hd:o.dst=some d:=by rfl) (hn:Nat.ble (d+1) n=true:=by rfl) (hE:pick ((d,v)::E) ks=some E':=by rfl):LG P ops (Exit.then (y.wp P Q) Q') n E [o] w:=za hg e hd hn (Zn ks h hE)
theorem Zsn {E':Env} {y:Code} (ks:List Nat) (h:CG P Q n E' y w) (hE:pick E ks=some E':=by rfl):SG P ops (fun a=>Exit.then (y.wp P Q) Q' .normal a w) n E [] w0:=sg_nil (nx (pick_ok hE) h)
theorem ZrM {y:Code} {id:Nat} (h:LG P (o::rest).toArray (Exit.then (y.wp P Q) Q) n ((d,v)::E) rest w) (hg:o.guard=none:=by rfl) (ho:o.op=.move x:=by rfl) (hx:val E x=some v:=by rfl) (hd:o.dst=some d:=by rfl) (hn:Nat.ble (d+1) n=true:=by rfl):CG P Q n E (.seq (.region id (o::rest).toArray false) y) w:=Qd (Qe (zM hg ho hx hd hn h))
theorem ZrA {y:Code} {id:Nat} (h:LG P (o::rest).toArray (Exit.then (y.wp P Q) Q) n ((d,v)::E) rest w) (hg:o.guard=none:=by rfl) (ho:o.op=.assign x:=by rfl) (hx:val E x=some v:=by rfl) (hd:o.dst=some d:=by rfl) (hn:Nat.ble (d+1) n=true:=by rfl):CG P Q n E (.seq (.region id (o::rest).toArray false) y) w:=Qd (Qe (zA hg ho hx hd hn h))
theorem Un {a b c:World} (u:Below a.heap.size a b) (h:Below b.heap.size b c):Below a.heap.size a c:=u.trans (h.mono u.size)
end
theorem Bm {w:World} (h:Below B w w') (hk:k<=B:=by omega):Below k w w':=h.mono hk
theorem Br (w:World):Below w.heap.size w w:=Below.refl w.heap.size w
theorem Lr {n:Nat}:n<=n:=Nat.le_refl n
theorem Rb {w:World} {b:Nat} {cs:Array Value} (h:Below w.heap.size w w') (r:RowAt w b t cs):RowAt w' b t cs:=r.below h r.lt
theorem New.f {w:World} {b:Nat} {cs:Array Value} (h:New w w' b t cs):RowAt w' b t cs/\b=w.heap.size/\w'.heap.size=b+1/\b<w'.heap.size:=⟨h.row,h.blk,h.size,by have:=h.size;omega⟩
theorem Set1.f {w:World} {b:Nat} {cs:Array Value} (h:Set1 w w' b t cs):RowAt w' b t cs/\w'.heap.size=w.heap.size:=⟨h.row,h.size⟩
def zipZ:List Nat->List Value->Option Env
 | k::ks,v::vs=>match zipZ ks vs with
  | some q=>some ((k,v)::q)
  | none=>none
 | _,[]=>some []
 | [],_::_=>none
theorem zipZ_ok:∀ (vs:List Value) (m k:Nat) (E:Env),zipZ (List.range' k m) vs=some E->E=(List.range' k vs.length).zip vs/\vs.length<=m
 | [],m,k,E,h=>by
  cases m<;>simp [zipZ,List.range'] at h<;>simp [h]
 | v::vs,0,k,E,h=>by simp [zipZ,List.range'] at h
 | v::vs,m+1,k,E,h=>by
  simp only [List.range'_succ] at h;unfold zipZ at h;cases hq:zipZ (List.range' (k+1) m) vs with
  | none=>simp [hq] at h
  | some q =>
   simp only [hq,Option.some.injEq] at h;have:=zipZ_ok vs m (k+1) q hq;subst h;refine ⟨?_,by have:=this.2;simp;omega⟩;rw [this.1,List.length_cons,List.range'_succ,List.zip_cons_cons]
theorem Ze {P:Program} {f:FuncId} {fn:Func} {c:Code} {n:Nat} {E:Env} {w:World} (hf:P.funcs[f]?=some fn) (hn:fn.ntmps=n) (h:CG P (bodyPost P fn R) n E c w) (hb:fn.body=some c:=by rfl)
  (hE:zipZ [0,1,2,3,4,5,6,7,8] vs=some E:=by rfl) (hl:Nat.ble vs.length n=true:=by rfl):Calls P f vs.toArray w R:=by
 refine Qf hf hb hn (Nat.le_of_ble_eq_true hl) ?_;rw [List.range_eq_range',<-(zipZ_ok vs 9 0 E hE).1];exact h
section
variable {P:Program} {ops:Array Oper} {Q:Exit->Act->World->Prop} {n d:Nat} {E:Env} {o:Oper} {rest:List Oper} {w:World} {v:Value} {x y:Operand} {t:TypeId}
theorem Zb {cs:Array Value} (h:∀ b w',New w w' b t cs->LG P ops Q n ((d,.pointer (some ⟨b,0,none⟩))::E) rest w') (hg:o.guard=none:=by rfl) (ho:o.op=.box t x:=by rfl) (hx:val E x=some (.agg cs):=by rfl)
  (hi:(P.info? t).map (·.size)=some cs.size:=by kernel_rfl) (hd:o.dst=some d:=by rfl) (hn:Nat.ble (d+1) n=true:=by rfl):LG P ops Q n E (o::rest) w:=lg_boxw (Qb hg) ho hx hi hd (Nat.le_of_ble_eq_true hn) h
theorem Zg {S:World->Prop} {fuel:Nat} {listed:Array Bool} (i:Nat) (hb:S w) (y:∀ w',S w'->Yields P E o w' v) (h:HGS P ops Q S n fuel (listed.setIfInBounds i true) ((d,v)::E) w) (ho:ops[i]?=some o:=by rfl) (hg:o.guard=none:=by rfl) (hv:isVal o.op=true:=by rfl) (hd:o.dst=some d:=by rfl) (hn:Nat.ble (d+1) n=true:=by rfl)
  (hs:(Region.noSelect ops && (Region.free .any ops listed i && (Region.ready .any ops listed).contains i))=true:=by kernel_rfl) (hQ:∀ c a w,Q (.panic c) (a.put (some d) v) w->Q (.panic c) a w:=by exact fun _ _ _ h=>h):HGS P ops Q S n (fuel+1) listed E w:=by
 rw [Bool.and_eq_true,Bool.and_eq_true] at hs;exact hgs_take i ho (Qb hg) hv hd (Nat.le_of_ble_eq_true hn) hs.1 hs.2.1 hs.2.2 hQ hb y h
theorem Zw {tr:TypeId} {b:Nat} {old cs:Array Value} (hr:RowAt w b tr old) (h:∀ w',Set1 w w' b tr cs->LG P ops Q n E rest w') (hg:o.guard=none:=by rfl) (ho:o.op=.store t x y:=by rfl) (hx:val E x=some (pv b 0):=by rfl) (hy:val E y=some (.agg cs):=by rfl)
  (hi:(P.info? t).map (·.size)=some cs.size:=by kernel_rfl) (h1:cs.all (·.oneCell')=true:=by kernel_rfl) (hsz:old.size=cs.size:=by rfl) (hd:o.dst=none:=by rfl):LG P ops Q n E (o::rest) w:=lg_stw (Qb hg) hr ho hx hy hi h1 hsz hd h
end
theorem kz {E E':Env} (h:pick E (E'.map (·.1))=some E':=by rfl):∀ p∈E',look E p.1=some p.2:=pick_ok h
section
variable {P:Program} {ops:Array Oper} {Q Q':Exit->Act->World->Prop} {n d:Nat} {E E':Env} {o:Oper} {w:World} {v:Value} {x:Operand} {t:TypeId} {y z:Code} {c:Operand}
theorem Zant (e:Yields P E o w v) (ks:List Nat) (h:CG P Q n E' y w) (hg:o.guard=none:=by rfl) (hd:o.dst=some d:=by rfl) (hn:Nat.ble (d+1) n=true:=by rfl) (hE:pick ((d,v)::E) ks=some E':=by rfl) (hc:val E' c=some (.bool true):=by rfl):LG P ops (Exit.then ((Code.cond c y z).wp P Q) Q') n E [o] w:=za hg e hd hn (Znt ks h hE hc)
theorem Zanc (e:Yields P E o w v) (ks:List Nat) (h:CG P Q n E' z w) (hg:o.guard=none:=by rfl) (hd:o.dst=some d:=by rfl) (hn:Nat.ble (d+1) n=true:=by rfl) (hE:pick ((d,v)::E) ks=some E':=by rfl) (hc:val E' c=some (.bool false):=by rfl):LG P ops (Exit.then ((Code.cond c y z).wp P Q) Q') n E [o] w:=za hg e hd hn (Zn ks (cg_cf hc h) hE)
theorem ZrAn {id:Nat} (ks:List Nat) (h:CG P Q n E' y w) (hg:o.guard=none:=by rfl) (ho:o.op=.assign x:=by rfl) (hx:val E x=some v:=by rfl) (hd:o.dst=some d:=by rfl) (hn:Nat.ble (d+1) n=true:=by rfl) (hE:pick ((d,v)::E) ks=some E':=by rfl):CG P Q n E (.seq (.region id [o].toArray false) y) w:=Qd (Qe (zA hg ho hx hd hn (Zn ks h hE)))
theorem ZrAr {id:Nat} (ks:List Nat) (h:∀ a,Holds n E' a->Q .ret a w) (hg:o.guard=none:=by rfl) (ho:o.op=.assign x:=by rfl) (hx:val E x=some v:=by rfl) (hd:o.dst=some d:=by rfl) (hn:Nat.ble (d+1) n=true:=by rfl) (hE:pick ((d,v)::E) ks=some E':=by rfl):CG P Q n E (.seq (.region id [o].toArray false) .ret) w:=Qd (Qe (zA hg ho hx hd hn (Znr ks h hE)))
theorem Yi {y:Operand} (ho:o.op=.binOp .add t x y t') (hx:val E x=some (nv (m:Int))) (hy:val E y=some (nv 1)) (h:(m:Int)+1<9223372036854775808):Yields P E o w (nv ((m+1:Nat):Int)):=yv (congrArg nv (show (m:Int)+1=((m+1:Nat):Int) by omega)) (yi_add ho hx hy (by omega) h)
theorem Qv {b:Nat} {tr:TypeId} {cs:Array Value} (hr:RowAt w b tr cs) (ho:o.op=.load t x:=by rfl) (hx:val E x=some (pv b j):=by rfl) (hj:cs[j]?=some v:=by rfl) (hu:aggB P t=some false:=by kernel_rfl):Yields P E o w v:=Qo hr hj hu ho hx
theorem Yy {y:Operand} {b off:Nat} (s:SlV) (el k i:Nat) (iI:Int) (hA:s.A=some ⟨b,off,none⟩) (e:iI=i) (hi:i<s.m) (ho:o.op=.indexAddr t x y:=by rfl) (hx:val E x=some s.v:=by rfl) (hy:val E y=some (nv iI):=by rfl) (hu:P.underlying t=some (.slice el):=by kernel_rfl) (hs:(P.info? el).map (·.size)=some k:=by kernel_rfl):Yields P E o w (pv b (off+i*k)):=y_ixR hA hu hs e hi ho hx hy
theorem Yx {y:Operand} {b off:Nat} (s:SlV) (el k i:Nat) (hA:s.A=some ⟨b,off,none⟩) (hi:i<s.m) (ho:o.op=.indexAddr t x y:=by rfl) (hx:val E x=some s.v:=by rfl) (hy:val E y=some (nv (i:Int)):=by rfl) (hu:P.underlying t=some (.slice el):=by kernel_rfl) (hs:(P.info? el).map (·.size)=some k:=by kernel_rfl):Yields P E o w (pv b (off+i*k)):=y_ixR hA hu hs rfl hi ho hx hy
end
section
variable {A:Option Addr} {B b b' j k m:Nat} {P:Program} {Q':Exit->Act->World->Prop} {R:Ending->World->Prop} {a:Act} {o:Oper} {p q:Tmp} {t t':TypeId} {ts:Array TypeId} {u v':Value} {w':World}
def popV (E:Env):Op->Option Value
 | .move x=>val E x
 | .assign x=>val E x
 | .pick c x y=>match val E c with
  | some (.bool true)=>val E x
  | some (.bool false)=>val E y
  | _=>none
 | .extract x i=>match val E x with
  | some (.tuple cs)=>cs[i]?
  | _=>none
 | .unOp .not _ x=>match val E x with
  | some (.bool b)=>some (.bool (!b))
  | _=>none
 | _=>none
def plV (l:List Oper) (E:Env) (o:Oper):Option Value:=match o.guard with
 | none=>popV E o.op
 | some (j,b)=>match l[j]? with
  | none=>none
  | some q=>match q.dst with
   | none=>none
   | some dj=>match look E dj with
    | some (.bool c)=>match c,b with
     | true,true=>popV E o.op
     | false,false=>popV E o.op
     | true,false=>some undef
     | false,true=>some undef
    | some (.tuple c)=>match c.toList with
     | []=>some undef
     | _=>none
    | _=>none
def runX (l:List Oper) (n:Nat):Nat->Env->List Oper->Option (Env × List Oper)
 | 0,E,r=>some (E,r)
 | k+1,E,r=>match r with
  | []=>none
  | o::r=>match o.dst with
   | none=>none
   | some d=>bif Nat.ble (d+1) n then match plV l E o with
     | some v=>runX l n k ((d,v)::E) r
     | none=>none
    else none
section
variable {P:Program} {l:List Oper} {Q:Exit->Act->World->Prop} {n d:Nat} {E E':Env} {o:Oper} {rest r:List Oper} {w:World} {v:Value}
theorem popV_ok (h:popV E o.op=some v):Yields P E o w v:=by
 unfold popV at h;split at h
 ·exact y_move (by assumption) h
 ·exact y_assign (by assumption) h
 ·split at h
  ·exact y_pick true (by assumption) (by assumption) h
  ·exact y_pick false (by assumption) (by assumption) h
  cases h
 ·split at h
  ·exact y_extract (by assumption) (by assumption) h
  cases h
 ·split at h
  ·cases h;exact y_bnot (by assumption) (by assumption)
  cases h
 cases h
theorem plV_ok (h:plV l E o=some v) (hd:o.dst=some d) (hn:Nat.ble (d+1) n=true) (hh:LG P l.toArray Q n ((d,v)::E) rest w):LG P l.toArray Q n E (o::rest) w:=by
 unfold plV at h;split at h
 ·exact za (by assumption) (popV_ok h) hd hn hh
 rename_i j b hg
 split at h
 ·cases h
 rename_i q hq
 split at h
 ·cases h
 rename_i dj hj
 have hj':(l.toArray[j]?).bind (·.dst)=some dj:=by simp [hq,hj]
 split at h
 ·rename_i c hy
  split at h
  ·exact zt dj hg hj' hy (popV_ok h) hd hn hh
  ·exact zt dj hg hj' hy (popV_ok h) hd hn hh
  ·cases h;exact zf dj hg hj' hy hd hn hh
  cases h;exact zf dj hg hj' hy hd hn hh
 ·rename_i c hy
  split at h
  ·rename_i hc
   cases h;have:c=#[]:=by
    apply Array.toList_inj.mp;simpa using hc
   subst this;exact zu dj hg hj' hy hd hn hh
  cases h
 cases h
theorem runX_ok:∀ (k:Nat) {E:Env} {r:List Oper},runX l n k E r=some (E',rest)->LG P l.toArray Q n E' rest w->LG P l.toArray Q n E r w
 | 0,E,r,h,hh=>by
  simp only [runX,Option.some.injEq,Prod.mk.injEq] at h;obtain ⟨rfl,rfl⟩:=h;exact hh
 | k+1,E,r,h,hh=>by
  unfold runX at h;split at h
  ·cases h
  split at h
  ·cases h
  rename_i o r' d hd
  cases hn:Nat.ble (d+1) n with
  | false=>simp [hn] at h
  | true=>
   simp only [hn,cond_true] at h;split at h
   ·exact plV_ok (by assumption) hd hn (runX_ok k h hh)
   cases h
end
section
variable {P:Program} {l:List Oper} {Q Q':Exit->Act->World->Prop} {n:Nat} {E E1 E':Env} {rest r:List Oper} {w:World} {y z:Code} {c:Operand} {id:Nat}
theorem Xa (k:Nat) (h:LG P l.toArray Q n E' rest w) (hr:runX l n k E r=some (E',rest):=by rfl):LG P l.toArray Q n E r w:=runX_ok k hr h
theorem Xn (k:Nat) (ks:List Nat) (h:CG P Q n E' y w) (hr:runX l n k E r=some (E1,[]):=by rfl) (hE:pick E1 ks=some E':=by rfl):LG P l.toArray (Exit.then (y.wp P Q) Q') n E r w:=runX_ok k hr (Zn ks h hE)
theorem Xu (k:Nat) (ks:List Nat) (h:∀ a,Holds n E' a->Q .ret a w) (hr:runX l n k E r=some (E1,[]):=by rfl) (hE:pick E1 ks=some E':=by rfl):LG P l.toArray (Exit.then (Code.ret.wp P Q) Q') n E r w:=runX_ok k hr (Znr ks h hE)
theorem Xt (k:Nat) (ks:List Nat) (h:CG P Q n E' y w) (hr:runX l n k E r=some (E1,[]):=by rfl) (hE:pick E1 ks=some E':=by rfl) (hc:val E' c=some (.bool true):=by rfl):LG P l.toArray (Exit.then ((Code.cond c y z).wp P Q) Q') n E r w:=runX_ok k hr (Znt ks h hE hc)
theorem Xc (k:Nat) (ks:List Nat) (h:CG P Q n E' z w) (hr:runX l n k E r=some (E1,[]):=by rfl) (hE:pick E1 ks=some E':=by rfl) (hc:val E' c=some (.bool false):=by rfl):LG P l.toArray (Exit.then ((Code.cond c y z).wp P Q) Q') n E r w:=runX_ok k hr (Zn ks (cg_cf hc h) hE)
theorem XR (k:Nat) (h:LG P l.toArray (Exit.then (y.wp P Q) Q) n E' rest w) (hr:runX l n k E l=some (E',rest):=by rfl):CG P Q n E (.seq (.region id l.toArray false) y) w:=Zr (runX_ok k hr h)
theorem XRn (k:Nat) (ks:List Nat) (h:CG P Q n E' y w) (hr:runX l n k E l=some (E1,[]):=by rfl) (hE:pick E1 ks=some E':=by rfl):CG P Q n E (.seq (.region id l.toArray false) y) w:=Zr (Xn k ks h hr hE)
theorem XRu (k:Nat) (ks:List Nat) (h:∀ a,Holds n E' a->Q .ret a w) (hr:runX l n k E l=some (E1,[]):=by rfl) (hE:pick E1 ks=some E':=by rfl):CG P Q n E (.seq (.region id l.toArray false) .ret) w:=Zr (Xu k ks h hr hE)
theorem XRt (k:Nat) (ks:List Nat) (h:CG P Q n E' y w) (hr:runX l n k E l=some (E1,[]):=by rfl) (hE:pick E1 ks=some E':=by rfl) (hc:val E' c=some (.bool true):=by rfl):CG P Q n E (.seq (.region id l.toArray false) (.cond c y z)) w:=Zr (Xt k ks h hr hE hc)
end
section
variable {P:Program} {ops:Array Oper} {Q:Exit->Act->World->Prop} {n d j:Nat} {b:Bool} {E:Env} {o:Oper} {rest:List Oper} {w:World} {p:Prop} {i:Decidable p}
theorem Zi (y:Yields P E o w (.bool (@decide p i))) (h:p->LG P ops Q n ((d,.bool true)::E) rest w) (h':¬p->LG P ops Q n ((d,.bool false)::E) rest w) (hg:o.guard=none:=by rfl) (hd:o.dst=some d:=by rfl) (hn:Nat.ble (d+1) n=true:=by rfl):LG P ops Q n E (o::rest) w:=by
 by_cases c:p
 ·exact za hg (by rw [decide_eq_true c] at y;exact y) hd hn (h c)
 exact za hg (by rw [decide_eq_false c] at y;exact y) hd hn (h' c)
theorem Zj (y:Yields P E o w (.bool (!@decide p i))) (h:p->LG P ops Q n ((d,.bool false)::E) rest w) (h':¬p->LG P ops Q n ((d,.bool true)::E) rest w) (hg:o.guard=none:=by rfl) (hd:o.dst=some d:=by rfl) (hn:Nat.ble (d+1) n=true:=by rfl):LG P ops Q n E (o::rest) w:=by
 by_cases c:p
 ·exact za hg (by rw [decide_eq_true c] at y;exact y) hd hn (h c)
 exact za hg (by rw [decide_eq_false c] at y;exact y) hd hn (h' c)
theorem Zp (dj:Nat) (y:Yields P E o w (.bool (@decide p i))) (h:p->LG P ops Q n ((d,.bool true)::E) rest w) (h':¬p->LG P ops Q n ((d,.bool false)::E) rest w) (hg:o.guard=some (j,b):=by rfl) (hj:(ops[j]?).bind (·.dst)=some dj:=by kernel_rfl) (hy:look E dj=some (.bool b):=by rfl) (hd:o.dst=some d:=by rfl) (hn:Nat.ble (d+1) n=true:=by rfl):LG P ops Q n E (o::rest) w:=by
 by_cases c:p
 ·exact zt dj hg hj hy (by rw [decide_eq_true c] at y;exact y) hd hn (h c)
 exact zt dj hg hj hy (by rw [decide_eq_false c] at y;exact y) hd hn (h' c)
theorem Zq (dj:Nat) (y:Yields P E o w (.bool (!@decide p i))) (h:p->LG P ops Q n ((d,.bool false)::E) rest w) (h':¬p->LG P ops Q n ((d,.bool true)::E) rest w) (hg:o.guard=some (j,b):=by rfl) (hj:(ops[j]?).bind (·.dst)=some dj:=by kernel_rfl) (hy:look E dj=some (.bool b):=by rfl) (hd:o.dst=some d:=by rfl) (hn:Nat.ble (d+1) n=true:=by rfl):LG P ops Q n E (o::rest) w:=by
 by_cases c:p
 ·exact zt dj hg hj hy (by rw [decide_eq_true c] at y;exact y) hd hn (h c)
 exact zt dj hg hj hy (by rw [decide_eq_false c] at y;exact y) hd hn (h' c)
end
section
variable {w:World} {c B:Nat} {cs cs':Array Value}
theorem Set1.kp (h:Set1 w w' b t cs) (r:RowAt w b' t' cs') (e:b'≠b:=by omega):RowAt w' b' t' cs':=h.keep r e
theorem Set1.bl (h:Set1 w w' b t cs) (e:B<=b:=by omega):Below B w w':=h.below B e
theorem But.kp (h:But w w' b) (r:RowAt w b' t cs') (e:b'≠b:=by omega):RowAt w' b' t cs':=h.keep r e
theorem But.bl (h:But w w' b) (e:B<=b:=by omega) (e':B<=w.heap.size:=by omega):Below B w w':=h.below B e e'
theorem But2.kp (h:But2 w w' b c) (r:RowAt w b' t cs') (e:b'≠b:=by omega) (e':b'≠c:=by omega):RowAt w' b' t cs':=h.keep r e e'
theorem But2.bl (h:But2 w w' b c) (e:B<=b:=by omega) (e':B<=c:=by omega) (e'':B<=w.heap.size:=by omega):Below B w w':=h.below B e e' e''
end
section
variable {P:Program} {ops:Array Oper} {Q:Exit->Act->World->Prop} {n d dj:Nat} {B:Nat} {E:Env} {o:Oper} {rest:List Oper} {w W:World} {v:Value} {x y:Operand} {t:TypeId} {cs:Array Value} {fn:Func} {j':Nat} {b1:Bool}
theorem Qt {a c:Bool} (h:a=c) (u:Below B W w) (hf:fn.results=#[.tmp p]:=by rfl) (hp:look E p=some (.bool a):=by rfl):∀ a',Holds n E a'->bodyPost P fn (fun e w'=>∃ v,e=.returned v/\v=.bool c/\Below B W w') .ret a' w:=Qa hf hp ⟨_,rfl,congrArg Value.bool h,u⟩
theorem Qn {a c:Int} (h:a=c) (u:Below B W w) (hf:fn.results=#[.tmp p]:=by rfl) (hp:look E p=some (nv a):=by rfl):∀ a',Holds n E a'->bodyPost P fn (fun e w'=>∃ v,e=.returned v/\v=nv c/\Below B W w') .ret a' w:=Qa hf hp ⟨_,rfl,congrArg nv h,u⟩
theorem Qw (u:Below B W w) (hf:fn.results=#[.tmp p]:=by rfl) (hp:look E p=some v:=by rfl):∀ a',Holds n E a'->bodyPost P fn (fun e w'=>∃ v',e=.returned v'/\v'=v/\Below B W w') .ret a' w:=Qa hf hp ⟨_,rfl,rfl,u⟩
theorem Qz {r:Tmp} {ty tr:TypeId} {z:Value} (hr:RowAt w b tr cs) (hR:R (.returned (.tuple #[.agg cs,u,z])) w) (h:fn.results=#[.cell p ty,.tmp q,.tmp r]:=by rfl) (hp:look E p=some (pv b 0):=by rfl) (hu:aggB P ty=some true:=by kernel_rfl) (hi:(P.info? ty).map (·.size)=some cs.size:=by kernel_rfl) (hq:look E q=some u:=by rfl) (hz:look E r=some z:=by rfl):∀ a,Holds n E a->bodyPost P fn R .ret a w:=eg_ret_agg3 h hp hr hu hi hq hz hR
theorem Zy {s:TypeId} {f:Nat} (off:Nat) (h:LG P ops Q n ((d,pv b (j+off))::E) rest w) (hg:o.guard=none:=by rfl) (ho:o.op=.fieldAddr s x f:=by rfl) (hx:val E x=some (pv b j):=by rfl) (hf:fldOff P s f=some off:=by kernel_rfl) (hd:o.dst=some d:=by rfl) (hn:Nat.ble (d+1) n=true:=by rfl):LG P ops Q n E (o::rest) w:=Za (y_fld hf ho hx) h hg hd hn
theorem Zx {s:TypeId} {f:Nat} (dj off:Nat) (h:LG P ops Q n ((d,pv b (j+off))::E) rest w) (hg:o.guard=some (j',b1):=by rfl) (hj:(ops[j']?).bind (·.dst)=some dj:=by kernel_rfl) (hy:look E dj=some (.bool b1):=by rfl) (ho:o.op=.fieldAddr s x f:=by rfl) (hx:val E x=some (pv b j):=by rfl) (hf:fldOff P s f=some off:=by kernel_rfl) (hd:o.dst=some d:=by rfl) (hn:Nat.ble (d+1) n=true:=by rfl):LG P ops Q n E (o::rest) w:=Zt dj (y_fld hf ho hx) h hg hj hy hd hn
theorem Zv {tr:TypeId} (v:Value) (r:RowAt w b tr cs) (h:LG P ops Q n ((d,v)::E) rest w) (hg:o.guard=none:=by rfl) (ho:o.op=.load t x:=by rfl) (hx:val E x=some (pv b j):=by rfl) (hj:cs[j]?=some v:=by rfl) (hu:aggB P t=some false:=by kernel_rfl) (hd:o.dst=some d:=by rfl) (hn:Nat.ble (d+1) n=true:=by rfl):LG P ops Q n E (o::rest) w:=Za (Qv r ho hx hj hu) h hg hd hn
theorem Zvt {tr:TypeId} (dj:Nat) (v:Value) (r:RowAt w b tr cs) (h:LG P ops Q n ((d,v)::E) rest w) (hg:o.guard=some (j',b1):=by rfl) (hj':(ops[j']?).bind (·.dst)=some dj:=by kernel_rfl) (hy:look E dj=some (.bool b1):=by rfl) (ho:o.op=.load t x:=by rfl) (hx:val E x=some (pv b j):=by rfl) (hj:cs[j]?=some v:=by rfl) (hu:aggB P t=some false:=by kernel_rfl) (hd:o.dst=some d:=by rfl) (hn:Nat.ble (d+1) n=true:=by rfl):LG P ops Q n E (o::rest) w:=Zt dj (Qv r ho hx hj hu) h hg hj' hy hd hn
theorem Zd {f:FuncId} {xs:List Operand} {R:Value->World->Prop} (hc:Calls P f vs.toArray w fun e w'=>∃ v,e=.returned v/\R v w') (h:∀ v w',R v w'->LG P ops Q n ((d,v)::E) rest w') (ho:o.op=.call { callee:=.value (.func f),args:=xs.toArray,argTypes:=ts }:=by rfl) (hx:vals E xs=some vs:=by rfl) (hg:o.guard=none:=by rfl)
  (hf:((P.funcs[f]?).map fun fn=>(fn.name == "runtime.NumGoroutine", fn.body.isNone))=some (false, false):=by kernel_rfl) (hd:o.dst=some d:=by rfl) (hn:Nat.ble (d+1) n=true:=by rfl):LG P ops Q n E (o::rest) w:=Zc hc ho hx h hg hf hd hn
theorem Zdt {f:FuncId} {xs:List Operand} {R:Value->World->Prop} (dj:Nat) (hc:Calls P f vs.toArray w fun e w'=>∃ v,e=.returned v/\R v w') (h:∀ v w',R v w'->LG P ops Q n ((d,v)::E) rest w') (ho:o.op=.call { callee:=.value (.func f),args:=xs.toArray,argTypes:=ts }:=by rfl) (hx:vals E xs=some vs:=by rfl) (hg:o.guard=some (j',b1):=by rfl) (hj:(ops[j']?).bind (·.dst)=some dj:=by kernel_rfl) (hy:look E dj=some (.bool b1):=by rfl)
  (hf:((P.funcs[f]?).map fun fn=>(fn.name == "runtime.NumGoroutine", fn.body.isNone))=some (false, false):=by kernel_rfl) (hd:o.dst=some d:=by rfl) (hn:Nat.ble (d+1) n=true:=by rfl):LG P ops Q n E (o::rest) w:=Zct dj hc ho hx h hg hj hy hf hd hn
theorem Yp {tr:TypeId} (m:Nat) (r:RowAt w b tr cs) (ho:o.op=.load t x:=by rfl) (hx:val E x=some (pv b j):=by rfl) (hl:Nat.ble (j+m) cs.size=true:=by rfl) (hu:aggB P t=some true:=by kernel_rfl) (hi:(P.info? t).map (·.size)=some m:=by kernel_rfl):Yields P E o w (.agg (cs.extract j (j+m))):=y_part r rfl (Nat.le_of_ble_eq_true hl) hu hi ho hx
theorem Yj (ho:o.op=.binOp .add t x y t':=by rfl) (hx:val E x=some (nv (m:Int)):=by rfl) (hy:val E y=some (nv 1):=by rfl) (h:(m:Int)+1<9223372036854775808:=by omega):Yields P E o w (nv ((m+1:Nat):Int)):=Yi ho hx hy h
end
abbrev Bw (w w':World):Prop:=Below w.heap.size w w'
end
end Go.Proofs.YtjjdcnkbibkmkaaGreatDoor
