/-
  KitN: Rise, WiS, WiF, WiT, WiD, WiG, LfBase, LfMath, PnBase, PnMath, NdBase, NdMath, NdRow.
-/
import Derived.Lib.SlicesCompact
import Derived.Test.YtjjdcnkbibkmkaaGreatDoorKitR
namespace Go.Proofs.YtjjdcnkbibkmkaaGreatDoor
open Go.Proofs.Tryz
open Go.ChangeShapes Go.WideShapes Go.ChangeAt Go.RowKit
set_option linter.unusedVariables false
variable {B c j:Nat} {a b xs zs:List Int} {e:Ending} {r:Int} {s:SlV} {t t':TypeId} {w':World} {z:Operand}

/- Rise:
  Lists of whole numbers that rise: what a number laid into one makes of it; that they are told by their members; what sorting and leaving out neighbours that are the same makes.
-/
def insU (x:Int):List Int->List Int
 | []=>[x]
 | y::r=>if x<y then x::y::r else if x=y then y::r else y::insU x r
def riseU:List Int->List Int
 | []=>[]
 | x::r=>insU x (riseU r)
abbrev Rising (l:List Int):Prop:=l.Pairwise (·<·)
theorem insU_mem {x y:Int}:∀ {l:List Int},y∈insU x l↔y=x\/y∈l
 | []=>by simp [insU]
 | z::r=>by
  unfold insU;split
  ·simp
  split
  ·rename_i h1 h2
   subst h2;simp
  simp only [List.mem_cons,insU_mem (l:=r)];constructor
  ·rintro (h | h | h)<;>simp [h]
  rintro (h | h | h)<;>simp [h]
theorem insU_rising {x:Int}:∀ {l:List Int},Rising l->Rising (insU x l)
 | [],_=>by simp [insU]
 | z::r,h=>by
  have h1:=List.pairwise_cons.1 h;unfold insU;split
  ·rename_i hx
   exact List.pairwise_cons.2 ⟨fun b hb=>by
    rcases List.mem_cons.1 hb with rfl | hb
    ·exact hx
    have:=h1.1 b hb;omega,h⟩
  split
  ·exact h
  rename_i h2 h3
  refine List.pairwise_cons.2 ⟨fun b hb=>?_,insU_rising h1.2⟩;rcases insU_mem.1 hb with rfl | hb
  ·omega
  exact h1.1 b hb
theorem riseU_mem {y:Int}:∀ {l:List Int},y∈riseU l↔y∈l
 | []=>Iff.rfl
 | x::r=>by
  unfold riseU;rw [insU_mem,riseU_mem (l:=r),List.mem_cons]
theorem riseU_rising:∀ (l:List Int),Rising (riseU l)
 | []=>List.Pairwise.nil
 | x::r=>insU_rising (riseU_rising r)
theorem rising_ext:∀ {l m:List Int},Rising l->Rising m->(∀ x,x∈l↔x∈m)->l=m
 | [],[],_,_,_=>rfl
 | [],y::s,_,_,h=>absurd ((h y).2 (by simp)) (by simp)
 | x::r,[],_,_,h=>absurd ((h x).1 (by simp)) (by simp)
 | x::r,y::s,hl,hm,h=>by
  have h1:=List.pairwise_cons.1 hl;have h2:=List.pairwise_cons.1 hm;have e:x=y:=by
   rcases List.mem_cons.1 ((h x).1 (by simp)) with e | e
   ·exact e
   rcases List.mem_cons.1 ((h y).2 (by simp)) with e2 | e2
   ·exact e2.symm
   have:=h2.1 x e;have:=h1.1 y e2;omega
  subst e;rw [rising_ext h1.2 h2.2 fun z=>?_];have hz:=h z;constructor
  ·intro hm';rcases List.mem_cons.1 (hz.1 (by simp [hm'])) with e | e
   ·subst e;have:=h1.1 z hm';omega
   exact e
  intro hm';rcases List.mem_cons.1 (hz.2 (by simp [hm'])) with e | e
  ·subst e;have:=h2.1 z hm';omega
  exact e
theorem insU_length (x:Int):∀ (l:List Int),(insU x l).length<=l.length+1
 | []=>by simp [insU]
 | y::r=>by
  unfold insU;split
  ·simp
  split
  ·simp
  simp only [List.length_cons];have:=insU_length x r;omega
theorem riseU_length:∀ (l:List Int),(riseU l).length<=l.length
 | []=>Nat.le_refl _
 | x::r=>by
  have h1:=insU_length x (riseU r);have h2:=riseU_length r;unfold riseU;simp only [List.length_cons];omega
theorem rising_at {l:List Int} (h:Rising l) {i:Nat} (hij:i<j) (hj:j<l.length):l.getD i 0<l.getD j 0:=by
 have:=List.pairwise_iff_getElem.1 h i j (by omega) hj hij;simpa [List.getD_eq_getElem?_getD,show i<l.length by omega,hj] using this
theorem rising_of {l:List Int} (h:∀ i,i+1<l.length->l.getD i 0<l.getD (i+1) 0):Rising l:=by
 have key:∀ d i,i+d+1<l.length->l.getD i 0<l.getD (i+d+1) 0:=by
  intro d;induction d with
  | zero=>intro i hi;exact h i hi
  | succ d ih =>
   intro i hi;have h1:=ih i (by omega);have h2:=h (i+d+1) (by omega);have e:i+(d+1)+1=i+d+1+1:=by omega
   rw [e];omega
 refine List.pairwise_iff_getElem.2 fun i j hi hj hij=>?_;have:=key (j-i-1) i (by omega);rw [show i+(j-i-1)+1=j by omega] at this;simpa [List.getD_eq_getElem?_getD,hi,hj] using this
theorem not_rising {l:List Int} {i:Nat} (hi:i+1<l.length) (h:l.getD (i+1) 0<=l.getD i 0):¬Rising l:=fun q=>by
 have:=rising_at q (show i<i+1 by omega) hi;omega
theorem rising_le {l:List Int} (h:Rising l):l.Pairwise (·<=·):=h.imp fun h=>Int.le_of_lt h
theorem getD_mem {l:List Int} {i:Nat} (h:i<l.length):l.getD i 0∈l:=by
 rw [List.getD_eq_getElem?_getD,List.getElem?_eq_getElem h];exact List.getElem_mem h
theorem mem_getD {l:List Int} {x:Int} (h:x∈l):∃ i,i<l.length/\l.getD i 0=x:=by
 obtain ⟨i,hi,rfl⟩:=List.getElem_of_mem h;exact ⟨i,hi,by rw [List.getD_eq_getElem?_getD,List.getElem?_eq_getElem hi];rfl⟩
-- sorted, and without neighbours that are the same
section
open Go.Lib
theorem get_bang (h:j<zs.length):zs.toArray[j]! = zs[j]:=by simp [h]
theorem compact_mem (zs:List Int) (x:Int):x∈compact zs↔x∈zs:=by
 unfold compact compactUpTo;rw [List.mem_map];constructor
 ·rintro ⟨j,hj,rfl⟩;rw [List.mem_filter,List.mem_range] at hj;rw [get_bang hj.1];exact List.getElem_mem hj.1
 intro h;obtain ⟨i,hi,rfl⟩:=List.getElem_of_mem h;have key:∀ i (hi:i<zs.length),∃ a,a∈(List.range zs.length).filter (keeps zs.toArray)/\zs.toArray[a]! = zs[i]:=by
  intro i;induction i with
  | zero=>exact fun hi=>⟨0,by rw [List.mem_filter,List.mem_range];exact ⟨hi,by simp [keeps]⟩,get_bang hi⟩
  | succ i ih =>
   intro hi;by_cases e:zs[i+1]=zs[i]
   ·obtain ⟨a,h1,h2⟩:=ih (by omega);exact ⟨a,h1,h2.trans e.symm⟩
   refine ⟨i+1,?_,get_bang hi⟩;rw [List.mem_filter,List.mem_range];refine ⟨hi,?_⟩;unfold keeps;rw [decide_eq_true_iff];exact .inr (by rw [get_bang hi,Nat.add_sub_cancel,get_bang (by omega)];exact e)
 exact key i hi
theorem compact_rising (h:zs.Pairwise (·<=·)):Rising (compact zs):=by
 unfold compact compactUpTo;rw [Rising,List.pairwise_map,List.pairwise_filter];have hr:(List.range zs.length).Pairwise (fun a b=>a<b/\b<zs.length):=by
  refine List.pairwise_iff_getElem.2 fun i j hi hj hij=>?_;rw [List.length_range] at hi hj;simp only [List.getElem_range];exact ⟨hij,hj⟩
 refine hr.imp fun {a b} hab ha hb=>?_;obtain ⟨hab,hbl⟩:=hab;have hb':b=0\/zs.toArray[b]! ≠ zs.toArray[b-1]! := by simpa [keeps] using hb
 rcases hb' with hb' | hb'
 ·omega
 rw [get_bang hbl,get_bang (by omega)] at hb';rw [get_bang (by omega),get_bang hbl];have h1:zs[b-1]<=zs[b]:=List.pairwise_iff_getElem.1 h (b-1) b (by omega) hbl (by omega);by_cases e:a=b-1
 ·subst e;omega
 have h2:zs[a]<=zs[b-1]:=List.pairwise_iff_getElem.1 h a (b-1) (by omega) (by omega) (by omega);omega
theorem compact_sorted (zs:List Int):compact (zs.mergeSort fun x y=>decide (x<=y))=riseU zs:=by
 refine rising_ext (compact_rising ?_) (riseU_rising zs) fun x=>?_
 ·have:=List.pairwise_mergeSort (le:=fun (x y:Int)=>decide (x<=y)) (fun a b c h1 h2=>by simp at *;omega) (fun a b=>by simp;omega) zs;exact this.imp fun h=>by simpa using h
 rw [compact_mem,riseU_mem];exact List.mem_mergeSort
end
-- what is joined, and what is cut
def joinK (l:List Int) (i:Int):List Int:=riseU (l++[i])
def cutK (l i:List Int):List Int:=l.filter fun x=>decide (x∉i)
theorem joinK_mem {l:List Int} {i x:Int}:x∈joinK l i↔x∈l\/x=i:=by simp [joinK,riseU_mem]
theorem joinK_rising (l:List Int) (i:Int):Rising (joinK l i):=riseU_rising _
theorem cutK_mem {l i:List Int} {x:Int}:x∈cutK l i↔x∈l/\x∉i:=by simp [cutK]
theorem cutK_length (l i:List Int):(cutK l i).length<=l.length:=List.length_filter_le _ _
theorem cutK_take {l i:List Int} {t:Nat} (h:t<l.length):cutK (l.take (t+1)) i=cutK (l.take t) i++(if l.getD t 0∈i then [] else [l.getD t 0]):=by
 have e:l.getD t 0=l[t]:=by rw [List.getD_eq_getElem?_getD,List.getElem?_eq_getElem h];rfl
 rw [List.take_succ_eq_append_getElem h,cutK,List.filter_append,e];by_cases hm:l[t]∈i<;>simp [cutK,hm]
theorem cutK_congr {l i j:List Int} (h:∀ x,x∈i↔x∈j):cutK l i=cutK l j:=by
 unfold cutK;exact List.filter_congr fun x _=>by simp [h x]
theorem cutK_rising {l i:List Int} (h:Rising l):Rising (cutK l i):=List.Pairwise.filter _ h
/- WiS:
  Contracts of wire, and of the document's answers for it, with slices of octets as one letter each.
-/
section
variable {w:World} {B B2:Nat} {s s2:SlV} {xs vs:List Int}
theorem Sl.top (h:Sl w B s xs) (hB:B<=w.heap.size):Sl w w.heap.size s xs:=h.more hB
def GotTwoS (w:World) (B:Nat) (xs:List Int) (v:Value) (w':World):Prop :=
 ∃ p r:SlV,v=.tuple #[p.v,r.v,nv (bytesE xs)]/\Sl w' B p (bytesP xs)/\Sl w' B r (bytesR xs)/\Bw w w'
def GotIntS (w:World) (B:Nat) (xs:List Int) (k:Int) (v:Value) (w':World):Prop :=
 ∃ r:SlV,v=.tuple #[nv (numM xs k),r.v,nv (numE xs k)]/\Sl w' B r (numR xs k)/\Bw w w'
def PutS (w:World) (ys:List Int) (v:Value) (w':World):Prop:=∃ r:SlV,v=r.v/\Sl w' w'.heap.size r ys/\Bw w w'
theorem PutS.of {ys:List Int} (h:PutSl w ys e w'):∃ v,e=.returned v/\PutS w ys v w':=by
 obtain ⟨A,n,c,rfl,h1,h2,h3,h4⟩:=h;exact ⟨_,rfl,⟨A,n,c⟩,rfl,⟨h1,h2,h3⟩,h4⟩
theorem GotTwoS.of (h:GotTwo w B (bytesP xs) (bytesR xs) (bytesE xs) e w'):∃ v,e=.returned v/\GotTwoS w B xs v w':=by
 obtain ⟨A1,n1,c1,A,n,c,rfl,h1,h2,h3,h4,h5,h6,h7⟩:=h;exact ⟨_,rfl,⟨A1,n1,c1⟩,⟨A,n,c⟩,rfl,⟨h1,h2,h5⟩,⟨h3,h4,h6⟩,h7⟩
theorem GotIntS.of {k:Int} (h:GotInt w B (numM xs k) (numR xs k) (numE xs k) e w'):∃ v,e=.returned v/\GotIntS w B xs k v w':=by
 obtain ⟨A,n,c,rfl,h3,h4,h6,h7⟩:=h;exact ⟨_,rfl,⟨A,n,c⟩,rfl,⟨h3,h4,h6⟩,h7⟩
theorem putBytes_S (h:Sl w B s xs) (h2:Sl w B2 s2 vs) (hB:B<=w.heap.size) (hB2:B2<=w.heap.size) (hn:xs.length<=35184372088832):Calls prog 202 #[s.v,s2.v] w fun e w'=>∃ v,e=.returned v/\PutS w (xs++bytesOct vs) v w' :=
 (putBytes_any s.A s2.A s.m s.c s2.m s2.c w.heap.size xs vs w (h.top hB).2.2 (h2.top hB2).2.2 Lr h.1 h.2.1 (by rw [<-h.len];exact hn)).mono fun _ _ q=>PutS.of q
theorem putNum_S (m k:Int) (h:Sl w B s xs) (hB:B<=w.heap.size) (hn:xs.length<=35184372088832):Calls prog 249 #[s.v,nv m,nv k] w fun e w'=>∃ v,e=.returned v/\PutS w (xs++numOct m (widthK k)) v w' :=
 (putNum_any s.A s.m s.c B xs m k w h.2.2 hB (by rw [<-h.len];exact hn)).mono fun _ _ q=>PutS.of q
theorem concat2_S {b:Nat} (r:RowAt w b t #[s.v,s2.v]) (h:Sl w B s xs) (h2:Sl w B2 s2 vs) (hB:B<=w.heap.size) (hB2:B2<=w.heap.size) (hn:xs.length+vs.length<=70368744177664) :
  Calls prog 250 #[.slice (some ⟨b,0,none⟩) 2 2] w fun e w'=>∃ v,e=.returned v/\PutS w (xs++vs) v w' :=
 (concat_two b s.m s2.m s.c s2.c w.heap.size s.A s2.A xs vs w (h.top hB).2.2 (h2.top hB2).2.2 Lr r.lt (by rw [cell_of_row w b 0 _ t _ r];rfl) (by rw [cell_of_row w b 1 _ t _ r];rfl) (by rw [<-h.len,<-h2.len];exact hn)).mono fun e w' q=>by
  obtain ⟨v,rfl,how,hb,hs⟩:=q;obtain ⟨r,rfl,hr⟩:=own_Sl how (h.bytes.app h2.bytes);exact ⟨_,rfl,r,rfl,hr,hb⟩
theorem bytesOct_le (vs:List Int):(bytesOct vs).length<=vs.length+4:=by
 unfold bytesOct;split
 ·simp
 rw [List.length_append];have:=octN_le (vs.length:Int);omega
theorem bytesEq_S (h:Sl w B s xs) (h2:Sl w B2 s2 vs):Calls prog 170 #[s.v,s2.v] w fun e w'=>e=.returned (.bool (decide (xs=vs)))/\w'=w:=by
 refine Ze func170 ntmps170 ?_;refine ZrAn [0,1] ?_;refine ZrM ?_;refine Za (y_strS h) ?_;refine ZM ?_;refine Za (y_strS h2) ?_;refine Za (y_seqS h.bytes h2.bytes) ?_;refine ZAnr [4] ?_;exact Qa rfl rfl ⟨rfl,rfl⟩
end
/- WiF:
  Flags, with slices of octets as one letter each.
-/
def GotFlagS (w:World) (B:Nat) (xs:List Int) (v:Value) (w':World):Prop :=
 ∃ (b:Bool) (r:SlV),v=.tuple #[.bool b,r.v,nv (flagE xs)]/\b=decide (flagB xs=true)/\Sl w' B r (flagR xs)/\Bw w w'
section
variable {w w':World} {B:Nat} {s:SlV} {xs:List Int} {e:Ending}
theorem GotFlagS.of (h:GotFlag w B (flagB xs) (flagR xs) (flagE xs) e w'):∃ v,e=.returned v/\GotFlagS w B xs v w':=by
 obtain ⟨A,n,c,rfl,h3,h4,h6,h7⟩:=h;exact ⟨_,rfl,_,⟨A,n,c⟩,rfl,by simp,⟨h3,h4,h6⟩,h7⟩
theorem putFlag_S (b:Bool) (h:Sl w B s xs) (hB:B<=w.heap.size) (hn:xs.length<=35184372088832):Calls prog 248 #[s.v,.bool b] w fun e w'=>∃ v,e=.returned v/\PutS w (xs++flagOct b) v w' :=
 (putFlag_any s.A s.m s.c B xs b w h.2.2 hB (by rw [<-h.len];exact hn)).mono fun _ _ q=>PutS.of q
theorem flagOct_length (b:Bool):(flagOct b).length=1:=rfl
end
/- WiT:
  Contracts of wire's lists, and of the document's, with slices as one letter each.
-/
section
variable {w:World} {B B2:Nat} {s s2:SlV} {xs vs ls:List Int}
def GotNumsSF [Lo] (w:World) (B:Nat) (xs:List Int) (v:Value) (w':World):Prop :=
 ∃ p r:SlV,v=.tuple #[p.v,r.v,nv (numsE xs)]/\SlN w' w'.heap.size p (numsL xs)/\Sl w' B r (numsR xs)/\Fr w.heap.size p/\Bw w w'
def GotNumsFT (w:World) (B:Nat) (ls rs:List Int) (er:Int) (e:Ending) (w':World):Prop :=
 ∃ A1 n1 c1 A n c,e=.returned (.tuple #[.slice A1 n1 c1,.slice A n c,.int .i64 er])/\n1<=c1/\c1<=maxLen/\n<=c/\c<=maxLen/\Nums w' w'.heap.size A1 n1 ls/\Oct w' B A n rs/\Bw w w'/\∀ p,A1=some p->w.heap.size<=p.block/\∃ cs,w'.heap[p.block]?=some (.cells cs 3 (0,0))
theorem GotNumsSF.of [Lo] (h:GotNumsFT w B (numsL xs) (numsR xs) (numsE xs) e w'):∃ v,e=.returned v/\GotNumsSF w B xs v w':=by
 obtain ⟨A1,n1,c1,A,n,c,rfl,h1,h2,h3,h4,h5,h6,h7,h8⟩:=h;exact ⟨_,rfl,⟨A1,n1,c1⟩,⟨A,n,c⟩,rfl,⟨h1,⟨h2,fun _ p hp=>.inr (h8 p hp).2⟩,h5⟩,⟨h3,h4,h6⟩,fun p hp=>(h8 p hp).1,h7⟩
theorem putNums_S [Lo] (h:Sl w B s xs) (h2:SlN w B2 s2 ls) (hB:B<=w.heap.size) (hB2:B2<=w.heap.size) (hn:xs.length<=35184372088832):Calls prog 336 #[s.v,s2.v] w fun e w'=>∃ v,e=.returned v/\PutS w (xs++bytesOct (numsOct ls)) v w' :=
 (putNums_any s.A s2.A s.m s.c s2.m s2.c w.heap.size xs ls w (h.top hB).2.2 (h2.more hB2).2.2 Lr h.1 h.2.1 (by rw [<-h.len];exact hn)).mono fun _ _ q=>PutS.of q
end
/- WiD:
  The document's varint and wire, with slices as one letter each, from their code.
-/
section
variable {B:Nat} {w:World} {s:SlV} {xs:List Int} {E:Env} {o:Oper} {x y:Operand} {t t':TypeId} {n:Nat} {P:Program}
theorem Sl.at {i:Nat} (h:Sl w B s xs) (hi:i<xs.length):s.A=some ⟨blk s.A,off s.A,none⟩/\w.cell? ⟨blk s.A,off s.A+i,none⟩=some (.int .u8 (xs.getD i 0)):=by
 obtain ⟨b,o,hA,hB,hc⟩:=h.2.2.2.2 (by rw [<-h.len];omega);rw [hA];exact ⟨rfl,hc i _ (by rw [List.getD_eq_getElem?_getD,List.getElem?_eq_getElem hi];rfl)⟩
theorem y_ixB {i:Nat} {iI:Int} (h:Sl w B s xs) (e:iI=i) (hi:i<xs.length) (ho:o.op=.indexAddr 26 x y:=by rfl) (hx:val E x=some s.v:=by rfl) (hy:val E y=some (nv iI):=by rfl):Yields prog E o w (pv (blk s.A) (off s.A+i*1)):=
 y_ixR (el:=5) (h.at hi).1 (by kernel_rfl) (by kernel_rfl) e (by rw [<-h.len];exact hi) ho hx hy
theorem y_ldB {i:Nat} (h:Sl w B s xs) (hi:i<xs.length) (ho:o.op=.load 5 x:=by rfl) (hx:val E x=some (pv (blk s.A) (off s.A+i*1)):=by rfl):Yields prog E o w (.int .u8 (xs.getD i 0)):=y_celld (by rw [Nat.mul_one];exact (h.at hi).2) (by kernel_rfl) ho hx
theorem yb_int {m:Int} (hm:0<=m/\m<=255) (ho:o.op=.convert 5 3 x:=by rfl) (hx:val E x=some (.int .u8 m):=by rfl):Yields prog E o w (nv m):=yv (congrArg nv (wrap_i64 (by omega) (by omega))) (y_conv_u (ds:=.int .u8) (by kernel_rfl) (by kernel_rfl) ho hx)
theorem eg_ret3 {n:Nat} {P:Program} {fn:Func} {p q r:Tmp} {v u z:Value} {R:Ending->World->Prop} (hR:R (.returned (.tuple #[v,u,z])) w) (h:fn.results=#[.tmp p,.tmp q,.tmp r]:=by rfl) (hp:look E p=some v:=by rfl) (hq:look E q=some u:=by rfl) (hr:look E r=some z:=by rfl):∀ a,Holds n E a->bodyPost P fn R .ret a w:=eg_ret_tmp3 h hp hq hr hR
theorem y_cutB {lo:Int} (k:Nat) (e:lo=k) (hk:k<=s.m) (ho:o.op=.slice 26 x (some y) none none:=by rfl) (hx:val E x=some s.v:=by rfl) (hy:val E y=some (nv lo):=by rfl):Yields prog E o w (⟨cutA s.A k s.c,s.m-k,s.c-k⟩:SlV).v:=y_cut_l k e hk ho hx hy
end
section
variable {P:Program} {E:Env} {o:Oper} {x y:Operand} {t t':TypeId} {w:World}
end
/- WiG:
  The program's varint.Get and what wire gets, with slices as one letter each, from their code.
-/
section
variable {B:Nat} {w:World} {s:SlV} {xs:List Int} {E:Env} {o:Oper} {x y:Operand} {t t':TypeId} {n:Nat} {P:Program}
theorem yb_rem {q:Int} (h0:0<=r) (h1:0<q) (ho:o.op=.binOp .rem t x y t':=by rfl) (hx:val E x=some (.int .u8 r):=by rfl) (hy:val E y=some (.int .u8 q):=by rfl):Yields P E o w (.int .u8 (r % q)):=
 y_bin (fun x y w=>by
  show (Op.intDiv .rem .u8 r q).run P w=_;unfold Op.intDiv;rw [if_neg (by omega)];show Result.ok (Value.int .u8 (r.tmod q)) w=_;rw [Int.tmod_eq_emod_of_nonneg h0]) ho hx hy
theorem yi_shl8 (h0:0<=r) (h1:r*256<9223372036854775808) (ho:o.op=.binOp .shl t x y t':=by rfl) (hx:val E x=some (nv r):=by rfl) (hy:val E y=some (.int .u64 8):=by rfl):Yields P E o w (nv (r*256)):=
 y_bin (fun x y w=>by
  show (Op.shift .shl .i64 r .u64 8).run P w=_;unfold Op.shift;rw [if_neg (by omega)];show Result.ok (Value.int .i64 (IntKind.i64.wrap (r*256))) w=_;rw [wrap_i64 (by omega) h1]) ho hx hy
theorem y_cutB2 {hi:Int} (k:Nat) (e:hi=k) (h1:1<=k) (hk:k<=s.c) (ho:o.op=.slice 26 x (some y) (some z) none:=by rfl) (hx:val E x=some s.v:=by rfl) (hy:val E y=some (nv 1):=by rfl) (hz:val E z=some (nv hi):=by rfl):Yields prog E o w (⟨cutA s.A 1 s.c,k-1,s.c-1⟩:SlV).v:=y_cut_lh 1 k rfl e h1 hk ho hx hy hz
end
set_option maxRecDepth 20000 in
theorem get_S {w:World} (h:Sl w B s xs) (hB:B<=w.heap.size):Calls prog 229 #[s.v] w fun e w'=>∃ v,e=.returned v/\∃ r:SlV,v=.tuple #[nv (gotM xs),r.v,nv (getE xs)]/\Sl w' B r (gotR xs)/\Bw w w':=by
 have q1:=h.len;have q2:=h.cap;have bad:∀ e:Int,getE xs=e->e≠0->∃ v,Ending.returned (.tuple #[nv 0,nilS.v,nv e])=.returned v/\∃ r:SlV,v=.tuple #[nv (gotM xs),r.v,nv (getE xs)]/\Sl w B r (gotR xs)/\Bw w w:=fun e h1 h2=>⟨_,rfl,nilS,by rw [gotM,h1,if_neg h2],by rw [gotR,h1,if_neg h2];exact Sl.nil _ _,Br w⟩;refine Ze func229 ntmps229 ?_;refine XRn 3 [0] ?_;refine Qd<|XR 1 ?_;refine Za (y_lenS (el:=5) h) ?_;refine Zi yi_eql (fun c=>?_) fun c=>?_
 ·refine Xt 0 [11] ?_;refine XRu 3 [2,3,4] ?_;refine Qc ?_;exact eg_ret3 (bad 1 (by rw [getE,if_pos (by omega)]) (by decide))
 obtain ⟨x,ys,rfl⟩:∃ x ys,xs=x::ys:=by cases xs with | nil=>simp at c | cons x ys=>exact ⟨x,ys,rfl⟩
 have hx:=h.bytes x (by simp);have hl:(x::ys).length=ys.length+1:=rfl;refine Xn 0 [0,11] ?_;refine Zcf [0] ?_;refine XR 1 ?_;refine Za (y_ixB (i:=0) h rfl (by omega)) ?_;refine Za (y_ldB (i:=0) h (by omega)) ?_;refine Zd ((told_any x _).mono fun e w' q=>(⟨_,q.1,rfl,q.2⟩:∃ v,e=.returned v/\v=nv (toldN x)/\w=w')) ?_;rintro _ _ ⟨rfl,rfl⟩;refine Xn 1 [0,5] ?_;refine Qd<|XR 1 ?_;refine Zi yi_eql (fun c1=>?_) fun c1=>?_
 ·refine Xt 0 [17] ?_;refine XRu 3 [2,3,4] ?_;refine Qc ?_;exact eg_ret3 (bad 2 (by rw [getE,if_neg (by omega),if_pos (by rw [getK_cons,c1];rfl)]) (by decide))
 obtain ⟨k,hk,h1,h4⟩:∃ k:Nat,toldN x=k/\1<=k/\k<=4:=⟨(toldN x).toNat,by have:=toldN_cases x;omega,by have:=toldN_cases x;omega,by have:=toldN_cases x;omega⟩;have hK:getK (x::ys)=k:=by rw [getK_cons,hk];rfl
 rw [hk];refine Xn 0 [0,5,17] ?_;refine Zcf [0,5] ?_;refine Qd<|XR 1 ?_;refine Za (y_lenS (el:=5) h) ?_;refine Xa 1 ?_;refine Zi yi_lss (fun c2=>?_) fun c2=>?_
 ·refine Xt 0 [21] ?_;refine XRu 3 [2,3,4] ?_;refine Qc ?_;exact eg_ret3 (bad 1 (by rw [getE,hK,if_neg (by omega),if_neg (by omega),if_pos (by omega)]) (by decide))
 refine Xn 0 [0,5,21] ?_;refine Zcf [0,5] ?_;refine XR 1 ?_;refine Za (y_ixB (i:=0) h rfl (by omega)) ?_;refine Za (y_ldB (i:=0) h (by omega)) ?_;refine Za (yb_rem (r:=x) (q:=64) (by omega) (by omega)) ?_;refine Za (yb_int (m:=x % 64) (by omega)) ?_;refine Xn 1 [0,5,6] ?_;obtain ⟨q,hq⟩:∃ q:SlV,q=⟨cutA s.A 1 s.c,k-1,s.c-1⟩:=⟨_,rfl⟩;have hQ:Sl w B q (ys.take (k-1)):=by subst hq;have:=(h.head k (by omega)).tail 1 h1;rwa [List.drop_take,List.drop_succ_cons,List.drop_zero] at this
 refine Qd<|XR 2 ?_;refine Za (y_cutB2 (s:=s) k rfl h1 (by omega)) ?_;rw [<-hq];refine Za (y_lenM (el:=5) (s:=q) (n:=k-1) (by rw [hq])) ?_;refine Xn 1 [0,5,6,29,30,31] ?_
 refine Qj<|Qr (fun t a v=>Holds 49 [(0,s.v),(5,nv (k:Int)),(6,nv (valN x (ys.take t))),(29,q.v),(30,nv ((k-1:Nat):Int)),(31,nv (t:Int))] a/\w=v/\t+1<=k) k (fun a ha=>⟨ha.keep kz,rfl,h1⟩) ?_
 rintro t a v ht ⟨ha,rfl,htk⟩;refine cg_at ha ?_;clear ha a;have hb:=valN_bd x (ys.take t) (fun z hz=>h.bytes z (List.mem_cons_of_mem _ (List.mem_of_mem_take hz))) (by rw [List.length_take];omega);refine Zr ?_;refine Zi yi_lss (fun c3=>?_) fun c3=>?_
 ·have hty:t<ys.length:=by omega
  have hy:=h.bytes ((ys.take (k-1)).getD t 0) (by rw [List.getD_eq_getElem?_getD,List.getElem?_eq_getElem (by rw [List.length_take];omega)];exact List.mem_cons_of_mem _ (List.mem_of_mem_take (List.getElem_mem _)));have hv:valN x (ys.take t)*256+(ys.take (k-1)).getD t 0=valN x (ys.take (t+1)):=by rw [valN_step x ys t hty,List.getD_eq_getElem?_getD,List.getElem?_take_of_lt (by omega),List.getElem?_eq_getElem hty];rfl
  have hi:t<(ys.take (k-1)).length:=by rw [List.length_take];omega
  refine Xn 0 [0,5,6,29,30,31,32] ?_;refine Qd<|cg_ct rfl<|Zki [0,5,6,29,30,31] ?_;refine Qd<|Qj<|Zr<|Za (y_ixB (i:=t) hQ rfl hi) ?_;refine Za (y_ldB (i:=t) hQ hi) ?_;refine Xn 1 [0,5,6,8,29,30,31] ?_
  refine Qe<|Xa 1 ?_;refine Za (yi_shl8 (r:=valN x (ys.take t)) (by omega) (by omega)) ?_;refine Xa 1 ?_;refine Za (yb_int hy) ?_;refine Za (yv (congrArg nv hv) (yi_add rfl rfl rfl (by omega) (by omega))) ?_;refine Xa 1 ?_
  refine Qk<|Qi<|Nx [0,5,6,29,30,31] ?_;refine Qe<|Za Yj ?_;refine Xa 1 ?_
  exact Qk fun a ha=>⟨by omega,ha.keep kz,rfl,by omega⟩
 obtain rfl:k=t+1:=by omega
 refine Xn 0 [0,5,6,32] ?_;refine Qd<|cg_cf rfl<|cg_exit<|Qh<|Qh<|Ql<|Nx [0,5,6] ?_
 have hV:getV (x::ys)=valN x (ys.take t):=by rw [getV_cons,hK];rfl
 refine Qd<|XR 1 ?_;refine Zd ((size_any _ _).mono fun e w' q=>(⟨_,q.1,rfl,q.2⟩:∃ v,e=.returned v/\v=nv (sizeN (valN x (ys.take t)))/\w=w')) ?_;rintro _ _ ⟨rfl,rfl⟩;refine Xa 1 ?_;refine Zj yi_neq (fun c3=>?_) fun c3=>?_
 ·have hE:getE (x::ys)=0:=by rw [getE,hK,hV,if_neg (by omega),if_neg (by omega),if_neg (by omega),if_pos c3]
  refine Xn 0 [0,5,6,44] ?_;refine Zcf [0,5,6] ?_;refine Qd<|cg_still (by kernel_rfl) (by kernel_rfl) fun W eW=>?_
  have dW:=below_drew _ _ eW;have h:=h.below (Bm dW);refine Zsa y_move ?_;refine Zsa y_move ?_;refine Zsa y_move ?_;refine Zsa (y_cutB (s:=s) (t+1) rfl (by omega)) ?_;refine Zsa y_assign ?_;refine Zsa y_assign ?_;refine Zsa y_assign ?_;refine Zsn [2,3,4] ?_;refine cg_ret ?_;exact eg_ret3 ⟨_,rfl,_,by rw [gotM,hE,if_pos rfl,hV],by rw [gotR,if_pos hE,hK];exact h.tail (t+1) (by omega),dW⟩
 refine Xt 0 [44] ?_;refine XRu 3 [2,3,4] ?_;refine Qc ?_;exact eg_ret3 (bad 2 (by rw [getE,hK,hV,if_neg (by omega),if_neg (by omega),if_neg (by omega),if_neg c3]) (by decide))
theorem y_cutB_hm {E:Env} {o:Oper} {x y:Operand} {w:World} {hi:Int} (k:Nat) (e:hi=k) (hk:k<=s.c) (ho:o.op=.slice 26 x none (some y) (some z):=by rfl) (hx:val E x=some s.v:=by rfl) (hy:val E y=some (nv hi):=by rfl) (hz:val E z=some (nv hi):=by rfl):Yields prog E o w (⟨s.A,k,k⟩:SlV).v:=fun n a ha=>.inl (by
 unfold execOp;rw [ho];simp only [ha.eval hx,Option.map_some,Option.map_none,ha.eval hy,ha.eval hz];rw [Sem.run_bind,show (s.v)=Value.slice s.A s.m s.c from rfl,run_cut_hm s.A s.m s.c k hi e hk];rfl)
set_option maxRecDepth 20000 in
theorem getBytes_S {w:World} (h:Sl w B s xs) (hB:B<=w.heap.size):Calls prog 189 #[s.v] w fun e w'=>∃ v,e=.returned v/\GotTwoS w B xs v w':=by
 have bad:∀ (e:Int) v,Bw w v->bytesE xs=e->e≠0->∃ u,Ending.returned (.tuple #[nilS.v,nilS.v,nv e])=.returned u/\GotTwoS w B xs u v:=fun e v u h1 h2=>⟨_,rfl,nilS,nilS,by rw [h1],by rw [bytesP,h1,if_neg h2];exact Sl.nil _ _,by rw [bytesR,h1,if_neg h2];exact Sl.nil _ _,u⟩;refine Ze func189 ntmps189 ?_;refine XRn 3 [0] ?_;refine XR 1 ?_;refine Zd (get_S h hB) ?_;rintro _ w1 ⟨r1,rfl,m1,u⟩;refine Xn 7 [5,6,7] ?_;refine Qd<|XR 1 ?_;refine Zj yi_neq (fun c=>?_) fun c=>?_
 rotate_left
 ·refine Xt 0 [7,15] ?_;refine XRu 4 [2,3,4] ?_;refine Qc ?_;exact eg_ret3 (bad _ _ u (by rw [bytesE,if_pos c]) c)
 refine Xn 0 [5,6,15] ?_;refine Zcf [5,6] ?_;have hM:gotM xs=getV xs:=if_pos c;have hv:=getV_nonneg xs h.bytes;refine Qd<|XR 1 ?_;refine Zi yi_gtr (fun c1=>?_) fun c1=>?_
 ·refine Xt 0 [18] ?_;refine XRu 3 [2,3,4] ?_;refine Qc ?_;exact eg_ret3 (bad _ _ u (by rw [bytesE,if_neg (not_not_intro c),if_pos (hM▸c1)]) (by decide))
 refine Xn 0 [5,6,18] ?_;refine Zcf [5,6] ?_;refine Qd<|XR 1 ?_;refine Za (y_lenS (el:=5) m1) ?_;refine Xa 1 ?_;refine Zi yi_lss (fun c2=>?_) fun c2=>?_
 ·refine Xt 0 [22] ?_;refine XRu 3 [2,3,4] ?_;refine Qc ?_;exact eg_ret3 (bad _ _ u (by rw [bytesE,if_neg (not_not_intro c),if_neg (hM▸c1),if_pos (hM▸c2)]) (by decide))
 rw [hM] at c1 c2 ⊢;have hE:bytesE xs=0:=by rw [bytesE,if_neg (not_not_intro c),if_neg c1,if_neg c2]
 obtain ⟨k,hk⟩:∃ k:Nat,getV xs=k:=⟨(getV xs).toNat,by omega⟩;have q1:=m1.len;have q2:=m1.cap;refine Xn 0 [5,6,22] ?_;refine Zcf [5,6] ?_;refine Qd<|cg_still (by kernel_rfl) (by kernel_rfl) fun W eW=>?_
 have zu:=u.size;have dW:=below_drew _ _ eW;have m1:=m1.below (Bm dW);refine Zsa y_move ?_;refine Zsa y_move ?_;refine Zsa y_move ?_;refine Zsa (y_cutB_hm (s:=r1) k hk (by omega)) ?_;refine Zsa y_move ?_;refine Zsa y_move ?_;refine Zsa (y_cutB (s:=r1) k hk (by omega)) ?_;refine Zsa y_assign ?_;refine Zsa y_assign ?_;refine Zsa y_assign ?_;refine Zsn [2,3,4] ?_;refine cg_ret ?_;exact eg_ret3 ⟨_,rfl,⟨r1.A,k,k⟩,_,by rw [hE],by rw [bytesP,if_pos hE,hk];exact ⟨Nat.le_refl _,(by show k<=9223372036854775807;omega),m1.2.2.upto k (by omega)⟩,by rw [bytesR,if_pos hE,hk];exact m1.tail k (by omega),Un u dW⟩
theorem read_S {w:World} (h:Sl w B s xs) (hn:xs.length<=4):Calls prog 300 #[s.v] w fun e w'=>e=.returned (nv (numV xs))/\w'=w:=by
 have q1:=h.len;refine Ze func300 ntmps300 ?_;refine XRn 1 [0] ?_;refine XRn 1 [0,3] ?_;refine Qd<|XR 1 ?_;refine Za (y_lenS (el:=5) h) ?_;refine Xn 1 [3,6,7,8] ?_
 refine Qj<|Qr (fun t a v=>Holds 19 [(3,nv (numV (xs.take t))),(6,s.v),(7,nv (xs.length:Int)),(8,nv (t:Int))] a/\w=v/\t<=xs.length) xs.length (fun a ha=>⟨ha.keep kz,rfl,Nat.zero_le _⟩) ?_
 rintro t a v ht ⟨ha,rfl,htk⟩;refine cg_at ha ?_;clear ha a;have hb:=numV_bd (xs.take t) (fun z hz=>h.bytes z (List.mem_of_mem_take hz)) (by rw [List.length_take];omega);refine Zr ?_;refine Zi yi_lss (fun c=>?_) fun c=>?_
 ·have hty:t<xs.length:=by omega
  have hy:=h.bytes (xs.getD t 0) (by rw [List.getD_eq_getElem?_getD,List.getElem?_eq_getElem hty];exact List.getElem_mem _);have hv:numV (xs.take t)*256+xs.getD t 0=numV (xs.take (t+1)):=by rw [numV_step xs t hty,List.getD_eq_getElem?_getD,List.getElem?_eq_getElem hty];rfl
  refine Xn 0 [3,6,7,8,9] ?_;refine Qd<|cg_ct rfl<|Zki [3,6,7,8] ?_;refine Qd<|Qj<|Zr<|Za (y_ixB (i:=t) h rfl hty) ?_;refine Za (y_ldB (i:=t) h hty) ?_;refine Xn 1 [3,5,6,7,8] ?_
  refine Qe<|Xa 1 ?_;refine Za (yi_shl8 (r:=numV (xs.take t)) (by omega) (by omega)) ?_;refine Xa 1 ?_;refine Za (yb_int hy) ?_;refine Za (yv (congrArg nv hv) (yi_add rfl rfl rfl (by omega) (by omega))) ?_;refine Xa 1 ?_
  refine Qk<|Qi<|Nx [3,6,7,8] ?_;refine Qe<|Za Yj ?_;refine Xa 1 ?_
  exact Qk fun a ha=>⟨by omega,ha.keep kz,rfl,by omega⟩
 obtain rfl:t=xs.length:=by omega
 rw [List.take_length];refine Xn 0 [3,9] ?_;refine Qd<|cg_cf rfl<|cg_exit<|Qh<|Qh<|Ql<|Nx [3] ?_;refine XRu 2 [2] ?_;exact Qa rfl rfl ⟨rfl,rfl⟩
set_option maxRecDepth 20000 in
theorem getNum_0 {w:World} (k:Int) (h:Sl w B s xs):Calls prog 270 #[s.v,nv k] w fun e w'=>∃ v,e=.returned v/\GotIntS w B xs k v w':=by
 have q1:=h.len;have q2:=h.cap;have hw:=widthK_le k;refine Ze func270 ntmps270 ?_;refine XRn 3 [0,1] ?_;refine XR 1 ?_;refine Zd ((width_any _ _).mono fun e w' q=>(⟨_,q.1,rfl,q.2⟩:∃ v,e=.returned v/\v=nv (widthK k:Nat)/\w=w')) ?_;rintro _ _ ⟨rfl,rfl⟩;refine Xn 1 [0,1] ?_;refine Qd<|XR 1 ?_;refine Za (y_lenS (el:=5) h) ?_;refine Xa 1 ?_;refine Zi yi_lss (fun c1=>?_) fun c1=>?_
 ·refine Xt 0 [12] ?_;refine XRu 3 [4,5,6] ?_;refine Qc ?_;have c:xs.length<widthK k:=by omega
  exact eg_ret3 ⟨_,rfl,nilS,by rw [numM,numE,if_pos c,if_pos c],by rw [numR,if_pos c];exact Sl.nil _ _,Br w⟩
 have c:¬xs.length<widthK k:=by omega
 refine Xn 0 [0,1,12] ?_;refine Zcf [0,1] ?_;refine Qd<|cg_still (by kernel_rfl) (by kernel_rfl) fun W eW=>?_
 have dW:=below_drew _ _ eW;have h:Sl W B s xs:=(by subst eW;exact ⟨h.1,h.2.1,h.2.2.drewN 1⟩);have hr:=read_S (h.head (widthK k) (by omega)) (by rw [List.length_take];omega);refine Zsa y_move ?_;refine Zsa y_move ?_;refine Zsa (y_cutS_h (s:=s) (widthK k) rfl (by omega)) ?_;refine Zsa (Qp hr) ?_;refine Zsa y_move ?_;refine Zsa y_move ?_;refine Zsa (y_cutB (s:=s) (widthK k) rfl (by omega)) ?_;refine Zsa y_assign ?_;refine Zsa y_assign ?_;refine Zsa y_assign ?_;refine Zsn [4,5,6] ?_;refine cg_ret ?_;exact eg_ret3 ⟨_,rfl,_,by rw [numM,numE,if_neg c,if_neg c],by rw [numR,if_neg c];exact h.tail (widthK k) (by omega),dW⟩
set_option maxRecDepth 20000 in
theorem getFlag_S {w:World} (h:Sl w B s xs):Calls prog 269 #[s.v] w fun e w'=>∃ v,e=.returned v/\GotFlagS w B xs v w':=by
 have hw:widthK 1=1:=rfl;refine Ze func269 ntmps269 ?_;refine XRn 3 [0] ?_;refine XR 1 ?_;refine Zd (getNum_0 1 h) ?_;rintro _ w1 ⟨r1,rfl,m1,u⟩;refine Xn 7 [5,6,7] ?_;refine Qd<|XR 1 ?_;refine Zj yi_neq (fun c=>?_) fun c=>?_
 rotate_left
 ·obtain rfl:xs=[]:=by
   cases xs with
   | nil=>rfl
   | cons x ys=>exact absurd (by rw [numE,hw,if_neg (by simp)]) c
  refine Xt 0 [7,15] ?_;refine XRu 4 [2,3,4] ?_;refine Qc ?_;exact eg_ret3 ⟨_,rfl,false,nilS,rfl,rfl,Sl.nil _ _,u⟩
 obtain ⟨x,ys,rfl⟩:∃ x ys,xs=x::ys:=by
  cases xs with
  | nil=>simp [numE,hw] at c
  | cons x ys=>exact ⟨x,ys,rfl⟩
 have hx:=h.bytes x (by simp);have e1:numM (x::ys) 1=x:=by rw [numM,hw,if_neg (by simp)];simp [numV]
 have e2:numR (x::ys) 1=ys:=by rw [numR,hw,if_neg (by simp)];rfl
 rw [e2] at m1;rw [e1];refine Xn 0 [5,6,15] ?_;refine Zcf [5,6] ?_;refine Qd<|XR 1 ?_;refine Zi yi_gtr (fun c1=>?_) fun c1=>?_
 ·have hE:flagE (x::ys)=2:=by rw [flagE,if_neg (by simp)];exact if_pos c1
  refine Xt 0 [18] ?_;refine XRu 3 [2,3,4] ?_;refine Qc ?_;exact eg_ret3 ⟨_,rfl,false,nilS,by rw [hE],(dF (by simp [flagB];omega)).symm,by rw [flagR,hE];exact Sl.nil _ _,u⟩
 have hE:flagE (x::ys)=0:=by rw [flagE,if_neg (by simp)];exact if_neg c1
 refine Xn 0 [5,6,18] ?_;refine Zcf [5,6] ?_;refine XR 1 ?_;refine Za yi_eql ?_;refine Xu 4 [2,3,4] ?_;exact eg_ret3 ⟨_,rfl,decide (x=1),r1,by rw [hE],by simp [flagB],by rw [flagR,if_pos hE];exact m1,u⟩
theorem getBytes_an2 (A:Option Addr) (n c B:Nat) (xs:List Int) (w:World) (hO:Oct w B A n xs) (hnc:n<=c) (hcm:c<=maxLen) (hB:B<=w.heap.size) :
  Calls prog 189 #[.slice A n c] w (GotTwo w B (bytesP xs) (bytesR xs) (bytesE xs)) :=
 (getBytes_S (s:=⟨A,n,c⟩) ⟨hnc,hcm,hO⟩ hB).mono fun e w' h=>by
  obtain ⟨_,rfl,p,r,rfl,h1,h2,h3⟩:=h;exact ⟨p.A,p.m,p.c,r.A,r.m,r.c,rfl,h1.1,h1.2.1,h2.1,h2.2.1,h1.2.2,h2.2.2,h3⟩
theorem read_an2 (A:Option Addr) (n c B:Nat) (xs:List Int) (w:World) (hO:Oct w B A n xs) (hn:n<=4) (hnc:n<=c) (hcm:c<=maxLen) :
  Calls prog 300 #[.slice A n c] w fun e w'=>e=.returned (.int .i64 (numV xs))/\w=w' :=
 (read_S (s:=⟨A,n,c⟩) ⟨hnc,hcm,hO⟩ (by rw [hO.1];exact hn)).mono fun _ _ h=>⟨h.1,h.2.symm⟩
theorem getNums_an2 (A:Option Addr) (n c B:Nat) (xs:List Int) (w:World) (hO:Oct w B A n xs) (hnc:n<=c) (hcm:c<=maxLen) (hB:B<=w.heap.size) :
  Calls prog 337 #[.slice A n c] w (GotNumsFT w B (numsL xs) (numsR xs) (numsE xs)):=by
 have Hc:=Lib.hid (getBytes_an2 A n c B xs w hO hnc hcm hB);have hle:=bytesP_le xs hO.2.1;clear hO;by_cases hE:bytesE xs=0
 ·by_cases h4:(bytesP xs).length % 4=0
  ·have e1:numsE xs=0:=by simp [numsE,hE,h4]
   have e2:numsL xs=fours (bytesP xs):=by simp [numsL,e1]
   have e3:numsR xs=bytesR xs:=by simp [numsR,e1]
   rw [e1,e2,e3];rw [hE] at Hc;generalize bytesP xs=ps at *;generalize bytesR xs=rs at *;obtain ⟨k,hk⟩:∃ k,ps.length / 4=k:=⟨_,rfl⟩;have hk4:ps.length=4*k:=by omega
   have HK:=Lib.hid hk;have HK4:=Lib.hid hk4;have hkb:k<=262144:=by omega
   clear e1 e2 e3 hE h4 hk hk4 hle;have hmk:=make_nums k k rfl (by omega)
   go_enter func337,ntmps337
   go_wp2_with fail
   refine Hc.out.mono ?_;rintro e w1 ⟨A1,n1,c1,A2,n2,c2,rfl,hn1,hc1,hn2,hc2,hO1,hO2,hb1⟩;have hc1':c1<=9223372036854775807:=hc1;obtain rfl:n1=4*k:=by rw [<-hO1.1,HK4.out]
   have HO1:=Lib.hid hO1;have HO2:=Lib.hid hO2;clear hO1 hO2;have HR:Hid ((w1.alloc (.cells (zerosI k).toArray 3)).ownsRow w1.heap.size 3 1 (.slice (some ⟨w1.heap.size,0,none⟩) k k) k (rowAt (fours ps) k 0)):=by
    have h:=World.ownsRow_lit (base:=w1.heap.size) (e:=3) (size:=1) w1 (zerosI k).toArray k Lr (by unfold maxLen;omega) (by simp [zerosI_length]);show World.ownsRow _ _ _ _ _ _ _;simpa [rowAt] using h
   have ba:Below w1.heap.size w1 (w1.alloc (.cells (zerosI k).toArray 3)):=(Below.refl _ _).alloc Lr _;have HF:Hid ((fours ps).length=k):=by show _=_;rw [fours_length,HK.out]
   generalize (zerosI k).toArray=zz at *
   go_wp2_with fail
   clear hmk
   go_loopw [29] (fun i w'=>∃ j:Nat,j<=k/\i=.int .i64 j/\Hid (w'.ownsRow w1.heap.size 3 1 (.slice (some ⟨w1.heap.size,0,none⟩) k k) k (rowAt (fours ps) k j))/\Bw w1 w'/\w1.heap.size<=w'.heap.size) (fun i _=>k-(intOf i).toNat)
   case atStart=>exact ⟨0,Nat.zero_le _,rfl,HR,ba,by simp⟩
   case round =>
    obtain ⟨j,hj,rfl,H1,hb2,hs2⟩:=hrel;by_cases hlt:j<k
    ·have r1:=run_cut_four A1 (4*k) c1 j (by omega);have hcell:wr.cell? ⟨w1.heap.size,j,none⟩=some (.int .i64 0):=by rw [H1.out.cellAt j (by omega)];exact rowAt_get _ k j HF.out hlt
     have hfro:wr.frozen? ⟨w1.heap.size,j,none⟩=false:=H1.out.frozenAt j;have HS:=Lib.hid (fours_step ps j (by rw [HK.out];exact hlt));have HX:Hid (Oct wr B (cutA A1 (4*j) c1) 4 ((ps.drop (4*j)).take 4)):=by
      show Oct _ _ _ _ _;exact ((HO1.out.below (hb2.mono (Nat.le_trans hB hb1.size))).cutA (4*j) c1 hn1 (by omega)).upto 4 (by omega)
     have HD:=Lib.hid (read_an2 (cutA A1 (4*j) c1) 4 (c1-4*j) B _ _ HX.out Lr (by omega) (by unfold maxLen;omega));generalize numV ((ps.drop (4*j)).take 4)=y at HS HD
     go_wp2_with (go_at_call 300;refine HD.out.mono ?_;rintro e w' ⟨rfl,rfl⟩)
     have hst:=H1.out.stored j (.int .i64 y);have H2:=Lib.hid hst.1;have hb3:Below w1.heap.size w1 (wr.setCell ⟨w1.heap.size,j,none⟩ (.int .i64 y)):=hb2.grown hst.2 hs2 (fun k hk=>by injection hk with hk;omega);have hs3:w1.heap.size<=(wr.setCell ⟨w1.heap.size,j,none⟩ (.int .i64 y)).heap.size:=Nat.le_trans hs2 hst.2.size;rw [rowAt_set _ k j HF.out hlt y HS.out] at H2;clear hst
     go_roundw
     case rel=>exact ⟨j+1,by omega,by go_num,H2,hb3,hs3⟩
     case measure=>simp [intOf];omega
    obtain rfl:j=k:=by omega
    have e:rowAt (fours ps) j j=(fours ps).map (Value.int .i64):=by
     unfold rowAt;rw [Nat.sub_self,show zerosI 0=[] from rfl,List.append_nil];conv=>lhs;arg 2;arg 1;rw [<-HF.out]
     rw [List.take_length]
    rw [e] at H1;clear e
    go_wp2_with fail
    go_ret3
    exact ⟨_,_,_,A2,n2,c2,rfl,Nat.le_refl _,(by unfold maxLen at *;omega),hn2,hc2,own_nums H1.out,HO2.out.below (hb2.mono (Nat.le_trans hB hb1.size)),hb1.trans (hb2.mono hb1.size),fun p e=>by injection e with e;subst e;exact ⟨hb1.size,own_int H1.out⟩⟩
  have e1:numsE xs=2:=by simp [numsE,hE,h4]
  have e2:numsL xs=[]:=by simp [numsL,e1]
  have e3:numsR xs=[]:=by simp [numsR,e1]
  rw [e1,e2,e3];rw [hE] at Hc;generalize bytesP xs=ps at *;generalize bytesR xs=rs at *;clear e1 e2 e3 hE
  go_enter func337,ntmps337
  go_wp2_with fail
  refine Hc.out.mono ?_;rintro e w1 ⟨A1,n1,c1,A2,n2,c2,rfl,hn1,hc1,hn2,hc2,hO1,hO2,hb1⟩;have hm:¬n1 % 4=0:=by rw [<-hO1.1];exact h4
  have hc1':c1<=9223372036854775807:=hc1;clear hO1 hO2 h4;have hm2:((n1:Int) % 4 != 0)=true:=by simp;omega
  have hm3:(n1 % 4 == 0)=false:=by simp;omega
  go_wp2
  go_ret3
  exact ⟨none,0,0,none,0,0,rfl,Nat.le_refl _,Nat.zero_le _,Nat.le_refl _,Nat.zero_le _,Nums.nil _ _ _,Oct.nil _ _ _,hb1,fun p e=>by cases e⟩
 have e1:numsE xs=bytesE xs:=by simp [numsE,hE]
 have e2:numsL xs=[]:=by simp [numsL,e1,hE]
 have e3:numsR xs=[]:=by simp [numsR,e1,hE]
 rw [e1,e2,e3];have hne:(bytesE xs != 0)=true:=by simpa using hE
 generalize bytesE xs=ee at *;generalize bytesP xs=ps at *;generalize bytesR xs=rs at *;clear e1 e2 e3 hE
 go_enter func337,ntmps337
 go_wp2_with fail
 refine Hc.out.mono ?_;rintro e w1 ⟨A1,n1,c1,A2,n2,c2,rfl,hn1,hc1,hn2,hc2,hO1,hO2,hb1⟩;clear hO1 hO2
 go_wp2
 go_ret3
 exact ⟨none,0,0,none,0,0,rfl,Nat.le_refl _,Nat.zero_le _,Nat.le_refl _,Nat.zero_le _,Nums.nil _ _ _,Oct.nil _ _ _,hb1,fun p e=>by cases e⟩
theorem getNum_S {w:World} (k:Int) (h:Sl w B s xs) (hB:B<=w.heap.size):Calls prog 270 #[s.v,nv k] w fun e w'=>∃ v,e=.returned v/\GotIntS w B xs k v w':=getNum_0 k h
theorem getNums_SF [Lo] {w:World} (h:Sl w B s xs) (hB:B<=w.heap.size):Calls prog 337 #[s.v] w fun e w'=>∃ v,e=.returned v/\GotNumsSF w B xs v w' :=
 (getNums_an2 s.A s.m s.c B xs w h.2.2 h.1 h.2.1 hB).mono fun _ _ q=>GotNumsSF.of q
/- LfBase:
  Leaves in memory, and what the document says of them.
-/
structure LfV where
 enc:SlV
 cred:SlV
 par:SlV
structure Lf where
 enc:List Int
 cred:List Int
 src:Int
 par:List Int
abbrev LfV.cs (l:LfV) (L:Lf):Array Value:=#[l.enc.v,l.cred.v,nv L.src,l.par.v]
structure IsLf (w:World) (B:Nat) (l:LfV) (L:Lf):Prop where
 enc:Sl w B l.enc L.enc
 cred:Sl w B l.cred L.cred
 par:Sl w B l.par L.par
section
variable {w w':World} {B B':Nat} {l:LfV} {L:Lf}
theorem IsLf.below (h:IsLf w B l L) (b:Below B w w'):IsLf w' B l L:=⟨h.enc.below b,h.cred.below b,h.par.below b⟩
theorem IsLf.more (h:IsLf w B l L) (b:B<=B'):IsLf w B' l L:=⟨h.enc.more b,h.cred.more b,h.par.more b⟩
theorem IsLf.mW (h:IsLf w B l L) (q:World) (b:B<=q.heap.size:=by omega):IsLf w q.heap.size l L:=h.more b
theorem IsLf.set {old new:Array Value} (h:IsLf w B l L) (r:RowAt w c t old) (no:old.toList.all noU8=true) (st:Set1 w w' c t' new):IsLf w' B l L:=⟨h.enc.set r no st,h.cred.set r no st,h.par.set r no st⟩
abbrev LfV.zero:LfV:=⟨nilS,nilS,nilS⟩
abbrev Lf.zero:Lf:=⟨[],[],0,[]⟩
def LfV.old (B:Nat) (l:LfV):Prop:=Old B l.enc/\Old B l.cred/\Old B l.par
theorem IsLf.old (h:IsLf w B l L):l.old B:=⟨h.enc.old,h.cred.old,h.par.old⟩
theorem IsLf.zero (w:World) (B:Nat):IsLf w B LfV.zero Lf.zero:=⟨Sl.nil _ _,Sl.nil _ _,Sl.nil _ _⟩
end

def lfCheck (L:Lf):Int :=
 if (L.enc.length:Int)=0 then 5
 else if 200<(L.enc.length:Int)\/200<(L.cred.length:Int)\/200<(L.par.length:Int) then 4
 else if ¬(1<=L.src/\L.src<=3) then 7
 else if 0<(L.par.length:Int)/\L.src≠3 then 2
 else 0
def lfOct (L:Lf):List Int:=bytesOct L.enc++bytesOct L.cred++numOct L.src (widthK 1)++(if L.src=3 then bytesOct L.par else [])
def lfPut (L:Lf):List Int:=if lfCheck L=0 then lfOct L else []
def lfFew (L:Lf):Prop:=IntKind.i64.wrap (IntKind.i64.wrap ((L.enc.length:Int)+(L.cred.length:Int))+(L.par.length:Int))<=1000
instance (L:Lf):Decidable (lfFew L):=by unfold lfFew;infer_instance
def LfSame (L M:Lf):Prop:=L.enc=M.enc/\L.cred=M.cred/\L.src=M.src/\L.par=M.par
instance (L M:Lf):Decidable (LfSame L M):=by unfold LfSame;infer_instance
theorem LfSame.eq {L M:Lf} (h:LfSame L M):L=M:=by
 obtain ⟨a,b,c,d⟩:=L;obtain ⟨a',b',c',d'⟩:=M;obtain ⟨h1,h2,h3,h4⟩:=h;simp only at h1 h2 h3 h4;subst h1 h2 h3 h4;rfl
theorem lfSame_iff {L M:Lf}:LfSame L M↔L=M:=⟨LfSame.eq,fun h=>h▸⟨rfl,rfl,rfl,rfl⟩⟩
def lfGet (xs:List Int):Int × Lf × List Int :=
 if bytesE xs≠0 then (bytesE xs,Lf.zero,[])
 else if bytesE (bytesR xs)≠0 then (bytesE (bytesR xs),Lf.zero,[])
 else
  let ys:=bytesR (bytesR xs)
  if numE ys 1≠0 then (numE ys 1,Lf.zero,[])
  else if ¬(1<=numM ys 1/\numM ys 1<=3) then (7,Lf.zero,[])
  else if numM ys 1=3 then
   if bytesE (numR ys 1)≠0 then (bytesE (numR ys 1),Lf.zero,[])
   else
    let L:Lf:=⟨bytesP xs,bytesP (bytesR xs),numM ys 1,bytesP (numR ys 1)⟩
    if lfCheck L≠0 then (lfCheck L,Lf.zero,[]) else (0,L,bytesR (numR ys 1))
  else
   let L:Lf:=⟨bytesP xs,bytesP (bytesR xs),numM ys 1,[]⟩
   if lfCheck L≠0 then (lfCheck L,Lf.zero,[]) else (0,L,numR ys 1)
def stepB (xs:List Int) (e:Int):List Int × List Int × Int:=if e=0 then (bytesP xs,bytesR xs,bytesE xs) else ([],xs,e)
def stepN (xs:List Int) (e:Int):Int × List Int × Int :=
 if e=0 then
  if numE xs 1=0 then (numM xs 1,numR xs 1,if 1<=numM xs 1/\numM xs 1<=3 then 0 else 7) else (numM xs 1,numR xs 1,numE xs 1)
 else (0,xs,e)
theorem lfCheck_ok {L:Lf} (h:lfCheck L=0):0<L.enc.length/\L.enc.length<=200/\L.cred.length<=200/\L.par.length<=200/\1<=L.src/\L.src<=3/\(L.par.length=0\/L.src=3):=by
 unfold lfCheck at h
 repeat' split at h
 all_goals omega
def gA (xs:List Int):List Int × List Int × Int:=stepB xs 0
def gB (xs:List Int):List Int × List Int × Int:=stepB (gA xs).2.1 (gA xs).2.2
def gC (xs:List Int):Int × List Int × Int:=stepN (gB xs).2.1 (gB xs).2.2
def gD (xs:List Int):List Int × List Int × Int:=stepB (gC xs).2.1 (gC xs).2.2
theorem lfGet_steps (xs:List Int):lfGet xs =
  if (gC xs).1=3 then
   if (gD xs).2.2=0 then
    if lfCheck (⟨(gA xs).1,(gB xs).1,(gC xs).1,(gD xs).1⟩:Lf)=0 then (0,(⟨(gA xs).1,(gB xs).1,(gC xs).1,(gD xs).1⟩:Lf),(gD xs).2.1)
    else (lfCheck (⟨(gA xs).1,(gB xs).1,(gC xs).1,(gD xs).1⟩:Lf),Lf.zero,[])
   else ((gD xs).2.2,Lf.zero,[])
  else
   if (gC xs).2.2=0 then
    if lfCheck (⟨(gA xs).1,(gB xs).1,(gC xs).1,[]⟩:Lf)=0 then (0,(⟨(gA xs).1,(gB xs).1,(gC xs).1,[]⟩:Lf),(gC xs).2.1)
    else (lfCheck (⟨(gA xs).1,(gB xs).1,(gC xs).1,[]⟩:Lf),Lf.zero,[])
   else ((gC xs).2.2,Lf.zero,[]):=by
 unfold lfGet;by_cases h1:bytesE xs=0
 ·by_cases h2:bytesE (bytesR xs)=0
  ·by_cases h3:numE (bytesR (bytesR xs)) 1=0
   ·by_cases h4:1<=numM (bytesR (bytesR xs)) 1/\numM (bytesR (bytesR xs)) 1<=3
    ·by_cases h5:numM (bytesR (bytesR xs)) 1=3
     ·by_cases h6:bytesE (numR (bytesR (bytesR xs)) 1)=0
      ·simp [gD,gC,gB,gA,stepB,stepN,h1,h2,h3,h5,h6,apply_ite]
      simp [gD,gC,gB,gA,stepB,stepN,h1,h2,h3,h5,h6]
     simp [gC,gB,gA,stepB,stepN,h1,h2,h3,h4,h5]
    simp [gD,gC,gB,gA,stepB,stepN,h1,h2,h3,h4]
   simp [gD,gC,gB,gA,stepB,stepN,h1,h2,h3]
  simp [gC,gB,gA,stepB,stepN,h1,h2]
 simp [gC,gB,gA,stepB,stepN,h1]
/- LfMath:
  What is put of leaves is got; what is got was put; unlike leaves have unlike octets: by pure means.
-/
theorem widthK1:widthK 1=1:=rfl
theorem numOct1 (n:Int):numOct n 1=[n % 256]:=by simp [numOct]
theorem num1_put (n:Int) (zs:List Int) (h:0<=n/\n<=255):numE (numOct n (widthK 1)++zs) 1=0/\numM (numOct n (widthK 1)++zs) 1=n/\numR (numOct n (widthK 1)++zs) 1=zs:=by
 rw [widthK1,numOct1];have e:n % 256=n:=by omega
 refine ⟨?_,?_,?_⟩
 ·simp [numE,widthK1]
 ·simp [numM,widthK1,numV,e]
 simp [numR,widthK1]
theorem num1_nil:numE [] 1=1:=by simp [numE,widthK1]
theorem num1_got (xs:List Int) (hx:Bytes xs) (h:numE xs 1=0):numOct (numM xs 1) (widthK 1)++numR xs 1=xs:=by
 match xs,hx,h with
 | [],_,h=>simp [num1_nil] at h
 | x::l,hx,h =>
  have h1:=hx x (by simp);have e:x % 256=x:=by omega
  rw [widthK1,numOct1];simp [numM,numR,widthK1,numV,e]
theorem lfPut_ok {L:Lf} (h:lfCheck L=0):lfPut L=lfOct L:=by rw [lfPut,if_pos h]
theorem lfPut_no {L:Lf} (h:¬lfCheck L=0):lfPut L=[]:=by rw [lfPut,if_neg h]
theorem lfPut_le (L:Lf):(lfPut L).length<=613:=by
 by_cases h:lfCheck L=0
 ·have ok:=lfCheck_ok h;have h1:=bytesOct_le L.enc;have h2:=bytesOct_le L.cred;have h3:=bytesOct_le L.par;rw [lfPut_ok h,lfOct];simp only [List.length_append,numOct_length,widthK1];split
  ·omega
  simp only [List.length_nil];omega
 rw [lfPut_no h];simp
theorem bytes_rest (hx:Bytes xs) (e:a++b=xs):Bytes b:=fun y hy=>hx y (by rw [<-e];simp [hy])
theorem lf_only (hx:Bytes xs) (h:(lfGet xs).1=0):lfCheck (lfGet xs).2.1=0/\lfPut (lfGet xs).2.1++(lfGet xs).2.2=xs:=by
 have key:∀ E M R,lfGet xs=(E,M,R)->E=0->lfCheck M=0/\lfPut M++R=xs:=by
  intro E M R hg hE;subst hE;unfold lfGet at hg;by_cases h1:bytesE xs=0
  ·rw [if_neg (not_not_intro h1)] at hg;have e1:=bytes_got xs hx h1;have x1:=bytes_rest hx e1;by_cases h2:bytesE (bytesR xs)=0
   ·rw [if_neg (not_not_intro h2)] at hg;have e2:=bytes_got _ x1 h2;have x2:=bytes_rest x1 e2;simp only [] at hg;by_cases h3:numE (bytesR (bytesR xs)) 1=0
    ·rw [if_neg (not_not_intro h3)] at hg;have e3:=num1_got _ x2 h3;have x3:=bytes_rest x2 e3;by_cases h4:1<=numM (bytesR (bytesR xs)) 1/\numM (bytesR (bytesR xs)) 1<=3
     ·rw [if_neg (not_not_intro h4)] at hg;by_cases h5:numM (bytesR (bytesR xs)) 1=3
      ·rw [if_pos h5] at hg;by_cases h6:bytesE (numR (bytesR (bytesR xs)) 1)=0
       ·rw [if_neg (not_not_intro h6)] at hg;have e6:=bytes_got _ x3 h6;by_cases h7:lfCheck (⟨bytesP xs,bytesP (bytesR xs),numM (bytesR (bytesR xs)) 1,bytesP (numR (bytesR (bytesR xs)) 1)⟩:Lf)=0
        ·rw [if_neg (not_not_intro h7)] at hg;simp only [Prod.mk.injEq,true_and] at hg;obtain ⟨rfl,rfl⟩:=hg;refine ⟨h7,?_⟩;rw [lfPut_ok h7,lfOct];simp only [if_pos h5,List.append_assoc];rw [e6,e3,e2,e1]
        rw [if_pos h7] at hg;exact absurd (congrArg Prod.fst hg) h7
       rw [if_pos h6] at hg;exact absurd (congrArg Prod.fst hg) h6
      rw [if_neg h5] at hg;by_cases h7:lfCheck (⟨bytesP xs,bytesP (bytesR xs),numM (bytesR (bytesR xs)) 1,[]⟩:Lf)=0
      ·rw [if_neg (not_not_intro h7)] at hg;simp only [Prod.mk.injEq,true_and] at hg;obtain ⟨rfl,rfl⟩:=hg;refine ⟨h7,?_⟩;rw [lfPut_ok h7,lfOct];simp only [if_neg h5,List.append_assoc,List.nil_append];rw [e3,e2,e1]
      rw [if_pos h7] at hg;exact absurd (congrArg Prod.fst hg) h7
     rw [if_pos h4] at hg;exact absurd (congrArg Prod.fst hg) (show ¬((7:Int)=0) by decide)
    rw [if_pos h3] at hg;exact absurd (congrArg Prod.fst hg) h3
   rw [if_pos h2] at hg;exact absurd (congrArg Prod.fst hg) h2
  rw [if_pos h1] at hg;exact absurd (congrArg Prod.fst hg) h1
 exact key _ _ _ rfl h
/- PnBase:
  Nodes that are no leaves in memory, and what the document says of them.
-/
structure PnV where
 enc:SlV
 hash:SlV
 unm:SlV
structure Pn where
 enc:List Int
 hash:List Int
 unm:List Int
abbrev PnV.cs (l:PnV) (L:Pn):Array Value:=#[l.enc.v,l.hash.v,l.unm.v]
structure IsPn [Lo] (w:World) (B:Nat) (l:PnV) (L:Pn):Prop where
 enc:Sl w B l.enc L.enc
 hash:Sl w B l.hash L.hash
 unm:SlN w B l.unm L.unm
section
variable {w w':World} {B B':Nat} {l:PnV} {L:Pn}
theorem IsPn.below [Lo] (h:IsPn w B l L) (b:Below B w w'):IsPn w' B l L:=⟨h.enc.below b,h.hash.below b,h.unm.below b⟩
theorem IsPn.more [Lo] (h:IsPn w B l L) (b:B<=B'):IsPn w B' l L:=⟨h.enc.more b,h.hash.more b,h.unm.more b⟩
theorem IsPn.mW [Lo] (h:IsPn w B l L) (q:World) (b:B<=q.heap.size:=by omega):IsPn w q.heap.size l L:=h.more b
theorem IsPn.set [Lo] {old new:Array Value} (h:IsPn w B l L) (r:RowAt w c t old) (no:old.toList.all noNum=true) (st:Set1 w w' c t' new):IsPn w' B l L:=⟨h.enc.set r (noU8_of no) st,h.hash.set r (noU8_of no) st,h.unm.set r no st⟩
abbrev PnV.zero:PnV:=⟨nilS,nilS,nilS⟩
abbrev Pn.zero:Pn:=⟨[],[],[]⟩
theorem IsPn.zero [Lo] (w:World) (B:Nat):IsPn w B PnV.zero Pn.zero:=⟨Sl.nil _ _,Sl.nil _ _,SlN.nil _ _⟩
def PnV.old (B:Nat) (l:PnV):Prop:=Old B l.enc/\Old B l.hash
def PnV.fresh (a:Nat) (l:PnV):Prop:=Fr a l.unm
theorem IsPn.setf [Lo] {a:Nat} {old new:Array Value} (h:IsPn w B l L) (r:RowAt w c t old) (no:old.toList.all noU8=true) (f:l.fresh a) (hc:c<a) (st:Set1 w w' c t' new):IsPn w' B l L:=⟨h.enc.set r no st,h.hash.set r no st,h.unm.setf f hc st⟩
end

def pnCheck (L:Pn):Int :=
 if (L.enc.length:Int)=0 then 5
 else if 200<(L.enc.length:Int)\/200<(L.hash.length:Int)\/64<(L.unm.length:Int) then 4
 else if ∃ x∈L.unm,x<0\/64<=x then 3
 else if ¬Rising L.unm then 8
 else 0
def pnOct (L:Pn):List Int:=bytesOct L.enc++bytesOct L.hash++bytesOct (numsOct L.unm)
def pnPut (L:Pn):List Int:=if pnCheck L=0 then pnOct L else []
def pnFew (L:Pn):Prop:=IntKind.i64.wrap (IntKind.i64.wrap ((L.enc.length:Int)+(L.hash.length:Int))+(L.unm.length:Int))<=600
instance (L:Pn):Decidable (pnFew L):=by unfold pnFew;infer_instance
def PnSame (L M:Pn):Prop:=L.enc=M.enc/\L.hash=M.hash/\L.unm=M.unm
instance (L M:Pn):Decidable (PnSame L M):=by unfold PnSame;infer_instance
def pnGet (xs:List Int):Int × Pn × List Int :=
 if ¬bytesE xs=0 then (bytesE xs,Pn.zero,[])
 else if ¬bytesE (bytesR xs)=0 then (bytesE (bytesR xs),Pn.zero,[])
 else if ¬numsE (bytesR (bytesR xs))=0 then (numsE (bytesR (bytesR xs)),Pn.zero,[])
 else if ¬pnCheck (⟨bytesP xs,bytesP (bytesR xs),numsL (bytesR (bytesR xs))⟩:Pn)=0 then (pnCheck (⟨bytesP xs,bytesP (bytesR xs),numsL (bytesR (bytesR xs))⟩:Pn),Pn.zero,[])
 else (0,(⟨bytesP xs,bytesP (bytesR xs),numsL (bytesR (bytesR xs))⟩:Pn),numsR (bytesR (bytesR xs)))
theorem pnCheck_ok {L:Pn} (h:pnCheck L=0):0<L.enc.length/\L.enc.length<=200/\L.hash.length<=200/\L.unm.length<=64:=by
 unfold pnCheck at h
 repeat' split at h
 all_goals omega
theorem pnCheck_nums {L:Pn} (h:pnCheck L=0):(∀ x∈L.unm,0<=x/\x<64)/\Rising L.unm:=by
 unfold pnCheck at h;split at h
 ·omega
 split at h
 ·omega
 split at h
 ·omega
 rename_i h3
 split at h
 ·omega
 rename_i h4
 exact ⟨fun x hx=>by
  have:¬(x<0\/64<=x):=fun q=>h3 ⟨x,hx,q⟩;omega,Decidable.not_not.1 h4⟩
theorem pnPut_le (L:Pn):(pnPut L).length<=668:=by
 unfold pnPut;split
 ·rename_i h
  have ok:=pnCheck_ok h;have h1:=bytesOct_le L.enc;have h2:=bytesOct_le L.hash;have h3:=bytesOct_le (numsOct L.unm);rw [numsOct_length] at h3;simp only [pnOct,List.length_append];omega
 simp
/- PnMath:
  What is put of nodes is got; what is got was put; which numbers may be named: by pure means.
-/
theorem pnSame_iff {L M:Pn}:PnSame L M↔L=M:=by
 constructor
 ·intro h;obtain ⟨a,b,c⟩:=L;obtain ⟨a',b',c'⟩:=M;obtain ⟨h1,h2,h3⟩:=h;simp only at h1 h2 h3;subst h1 h2 h3;rfl
 rintro rfl;exact ⟨rfl,rfl,rfl⟩
theorem pnPut_ok {L:Pn} (h:pnCheck L=0):pnPut L=pnOct L:=by rw [pnPut,if_pos h]
theorem pn_rest (hx:Bytes xs) (e:a++b=xs):Bytes b:=fun y hy=>hx y (by rw [<-e];simp [hy])
theorem pn_only (hx:Bytes xs) (h:(pnGet xs).1=0):pnCheck (pnGet xs).2.1=0/\pnPut (pnGet xs).2.1++(pnGet xs).2.2=xs:=by
 have key:∀ E M R,pnGet xs=(E,M,R)->E=0->pnCheck M=0/\pnPut M++R=xs:=by
  intro E M R hg hE;subst hE;unfold pnGet at hg;by_cases h1:bytesE xs=0
  ·rw [if_neg (not_not_intro h1)] at hg;have e1:=bytes_got xs hx h1;have x1:=pn_rest hx e1;by_cases h2:bytesE (bytesR xs)=0
   ·rw [if_neg (not_not_intro h2)] at hg;have e2:=bytes_got _ x1 h2;have x2:=pn_rest x1 e2;by_cases h3:numsE (bytesR (bytesR xs))=0
    ·rw [if_neg (not_not_intro h3)] at hg;have e3:=(nums_got _ x2 h3).2;by_cases h4:pnCheck (⟨bytesP xs,bytesP (bytesR xs),numsL (bytesR (bytesR xs))⟩:Pn)=0
     ·rw [if_neg (not_not_intro h4)] at hg;simp only [Prod.mk.injEq,true_and] at hg;obtain ⟨rfl,rfl⟩:=hg;refine ⟨h4,?_⟩;rw [pnPut_ok h4,pnOct];simp only [List.append_assoc];rw [e3,e2,e1]
     rw [if_pos h4] at hg;exact absurd (congrArg Prod.fst hg) h4
    rw [if_pos h3] at hg;exact absurd (congrArg Prod.fst hg) h3
   rw [if_pos h2] at hg;exact absurd (congrArg Prod.fst hg) h2
  rw [if_pos h1] at hg;exact absurd (congrArg Prod.fst hg) h1
 exact key _ _ _ rfl h
-- which numbers may be named
-- joined, and cut
/- NdBase:
  Nodes in memory, and what the document says of them.
-/
abbrev fnv:Option FuncId->Value
 | some f=>.func (.func f) #[] #[]
 | none=>.nilFunc
structure NdV where
 leaf:LfV
 inner:PnV
structure Nd where
 kind:Int
 leaf:Lf
 inner:Pn
abbrev NdV.cs (l:NdV) (L:Nd):Array Value:=#[nv L.kind,l.leaf.enc.v,l.leaf.cred.v,nv L.leaf.src,l.leaf.par.v,l.inner.enc.v,l.inner.hash.v,l.inner.unm.v]
structure IsNd [Lo] (w:World) (B:Nat) (l:NdV) (L:Nd):Prop where
 leaf:IsLf w B l.leaf L.leaf
 inner:IsPn w B l.inner L.inner
section
variable {w w':World} {B B':Nat} {l:NdV} {L:Nd}
theorem IsNd.below [Lo] (h:IsNd w B l L) (b:Below B w w'):IsNd w' B l L:=⟨h.leaf.below b,h.inner.below b⟩
theorem IsNd.more [Lo] (h:IsNd w B l L) (b:B<=B'):IsNd w B' l L:=⟨h.leaf.more b,h.inner.more b⟩
theorem IsNd.mW [Lo] (h:IsNd w B l L) (q:World) (b:B<=q.heap.size:=by omega):IsNd w q.heap.size l L:=h.more b
theorem IsNd.set [Lo] {old new:Array Value} (h:IsNd w B l L) (r:RowAt w c t old) (no:old.toList.all noNum=true) (st:Set1 w w' c t' new):IsNd w' B l L:=⟨h.leaf.set r (noU8_of no) st,h.inner.set r no st⟩
abbrev NdV.zero:NdV:=⟨⟨nilS,nilS,nilS⟩,⟨nilS,nilS,nilS⟩⟩
abbrev Nd.zero:Nd:=⟨0,⟨[],[],0,[]⟩,⟨[],[],[]⟩⟩
theorem IsNd.zero [Lo] (w:World) (B:Nat):IsNd w B NdV.zero Nd.zero:=⟨IsLf.zero _ _,IsPn.zero _ _⟩
def NdV.old (B:Nat) (l:NdV):Prop:=l.leaf.old B/\l.inner.old B
theorem NdV.old_zero (B:Nat):NdV.zero.old B:=⟨⟨Old.nil _,Old.nil _,Old.nil _⟩,Old.nil _,Old.nil _⟩
def NdV.fresh (a:Nat) (l:NdV):Prop:=l.inner.fresh a
theorem IsNd.setf [Lo] {a:Nat} {old new:Array Value} (h:IsNd w B l L) (r:RowAt w c t old) (no:old.toList.all noU8=true) (f:l.fresh a) (hc:c<a) (st:Set1 w w' c t' new):IsNd w' B l L:=⟨h.leaf.set r no st,h.inner.setf r no f hc st⟩
end
structure CsV where

structure Cs where
 put:Option FuncId
 get:Option FuncId
abbrev CsV.cs (l:CsV) (L:Cs):Array Value:=#[fnv L.put,fnv L.get]
structure IsCs (w:World) (B:Nat) (l:CsV) (L:Cs):Prop where

section
variable {w w':World} {B B':Nat} {l:CsV} {L:Cs}
theorem IsCs.below (h:IsCs w B l L) (b:Below B w w'):IsCs w' B l L:=⟨⟩
theorem IsCs.more (h:IsCs w B l L) (b:B<=B'):IsCs w B' l L:=⟨⟩
theorem IsCs.mW (h:IsCs w B l L) (q:World) (b:B<=q.heap.size:=by omega):IsCs w q.heap.size l L:=h.more b
theorem IsCs.set {old new:Array Value} (h:IsCs w B l L) (r:RowAt w c t old) (no:old.toList.all noU8=true) (st:Set1 w w' c t' new):IsCs w' B l L:=⟨⟩
abbrev CsV.zero:CsV:=⟨⟩
abbrev Cs.zero:Cs:=⟨none,none⟩
theorem IsCs.zero (w:World) (B:Nat):IsCs w B CsV.zero Cs.zero:=⟨⟩
end

def ndCheck (L:Nd):Int :=
 if L.kind<0\/2<L.kind then 7
 else if (¬L.kind=1/\¬LfSame L.leaf Lf.zero)\/(¬L.kind=2/\¬PnSame L.inner Pn.zero) then 2
 else if L.kind=1 then lfCheck L.leaf
 else if L.kind=2 then pnCheck L.inner
 else 0
def ndAs (L:Nd):Nd:=if ndCheck L=0 then L else Nd.zero
def NdSame (L M:Nd):Prop:=L.kind=M.kind/\LfSame L.leaf M.leaf/\PnSame L.inner M.inner
instance (L M:Nd):Decidable (NdSame L M):=by unfold NdSame;infer_instance
def ndFew (L:Nd):Prop:=lfFew L.leaf/\pnFew L.inner
instance (L:Nd):Decidable (ndFew L):=by unfold ndFew;infer_instance
def ndPut (L:Nd):List Int :=
 if (ndAs L).kind=1 then flagOct true++numOct 1 (widthK 1)++lfPut L.leaf
 else if (ndAs L).kind=2 then flagOct true++numOct 2 (widthK 1)++pnPut L.inner
 else flagOct false
def ndGet (xs:List Int):Int × Nd × List Int :=
 if ¬flagE xs=0 then (flagE xs,Nd.zero,[])
 else if ¬flagB xs=true then (0,Nd.zero,flagR xs)
 else if ¬numE (flagR xs) 1=0 then (numE (flagR xs) 1,Nd.zero,[])
 else if numM (flagR xs) 1=1 then
  if ¬(lfGet (numR (flagR xs) 1)).1=0 then ((lfGet (numR (flagR xs) 1)).1,Nd.zero,[])
  else (0,⟨1,(lfGet (numR (flagR xs) 1)).2.1,Pn.zero⟩,(lfGet (numR (flagR xs) 1)).2.2)
 else if numM (flagR xs) 1=2 then
  if ¬(pnGet (numR (flagR xs) 1)).1=0 then ((pnGet (numR (flagR xs) 1)).1,Nd.zero,[])
  else (0,⟨2,Lf.zero,(pnGet (numR (flagR xs) 1)).2.1⟩,(pnGet (numR (flagR xs) 1)).2.2)
 else (7,Nd.zero,[])
def ndOnly (L:Nd) (k:Int):List Int :=
 if (ndAs L).kind=k/\k=1 then flagOct true++lfPut L.leaf
 else if (ndAs L).kind=k/\k=2 then flagOct true++pnPut L.inner
 else flagOct false
def ofLeafO (i:Int) (L:Nd):List Int:=numOct 1 (widthK 1)++numOct i (widthK 4)++ndOnly L 1
def ofInnerO (L:Nd) (xs ys:List Int):List Int:=numOct 2 (widthK 1)++ndOnly L 2++bytesOct xs++bytesOct ys
def ofParentO (L:Pn) (xs:List Int):List Int:=bytesOct L.enc++bytesOct L.hash++bytesOct xs
theorem ndAs_ok {L:Nd} (h:ndCheck L=0):ndAs L=L:=if_pos h
theorem ndAs_no {L:Nd} (h:¬ndCheck L=0):ndAs L=Nd.zero:=if_neg h
theorem ndAs_kind {L:Nd} (h:¬(ndAs L).kind=0):ndAs L=L/\ndCheck L=0:=by
 by_cases e:ndCheck L=0
 ·exact ⟨ndAs_ok e,e⟩
 exact absurd (by rw [ndAs_no e]) h
theorem widthK_4:widthK 4=4:=by decide
theorem ndPut_le (L:Nd):(ndPut L).length<=2000:=by
 unfold ndPut;have h1:=lfPut_le L.leaf;have h2:=pnPut_le L.inner;have:=widthK1;split
 ·simp only [List.length_append,flagOct_length,numOct_length];omega
 split
 ·simp only [List.length_append,flagOct_length,numOct_length];omega
 simp [flagOct_length]
theorem ndOnly_le (L:Nd) (k:Int):(ndOnly L k).length<=2000:=by
 unfold ndOnly;have h1:=lfPut_le L.leaf;have h2:=pnPut_le L.inner;split
 ·simp only [List.length_append,flagOct_length];omega
 split
 ·simp only [List.length_append,flagOct_length];omega
 simp [flagOct_length]
theorem ofLeafO_le (i:Int) (L:Nd):(ofLeafO i L).length<=3000:=by
 have:=ndOnly_le L 1;have h1:=widthK1;have h4:=widthK_4;simp only [ofLeafO,List.length_append,numOct_length];omega
theorem ofInnerO_le (L:Nd) (xs ys:List Int):(ofInnerO L xs ys).length<=xs.length+ys.length+3000:=by
 have:=ndOnly_le L 2;have h1:=widthK1;have hx:=bytesOct_le xs;have hy:=bytesOct_le ys;simp only [ofInnerO,List.length_append,numOct_length];omega
theorem ofParentO_le (L:Pn) (xs:List Int):(ofParentO L xs).length<=L.enc.length+L.hash.length+xs.length+3000:=by
 have h1:=bytesOct_le L.enc;have h2:=bytesOct_le L.hash;have hx:=bytesOct_le xs;simp only [ofParentO,List.length_append];omega
/- NdMath:
  What is put of nodes is got; what is got was put; what is summed up tells all: by pure means.
-/
theorem ndSame_iff {L M:Nd}:NdSame L M↔L=M:=by
 constructor
 ·rintro ⟨h1,h2,h3⟩;obtain ⟨a,b,c⟩:=L;obtain ⟨a',b',c'⟩:=M;simp only at h1 h2 h3;rw [h1,lfSame_iff.1 h2,pnSame_iff.1 h3]
 rintro rfl;exact ⟨rfl,lfSame_iff.2 rfl,pnSame_iff.2 rfl⟩
theorem nd_same (L:Nd):NdSame L L:=ndSame_iff.2 rfl
theorem nd_cases {L:Nd} (h:ndCheck L=0):L=Nd.zero\/(L.kind=1/\L.inner=Pn.zero/\lfCheck L.leaf=0)\/(L.kind=2/\L.leaf=Lf.zero/\pnCheck L.inner=0):=by
 obtain ⟨k,l,n⟩:=L;have h:(if k<0\/2<k then 7 else if (¬k=1/\¬LfSame l Lf.zero)\/(¬k=2/\¬PnSame n Pn.zero) then 2 else if k=1 then lfCheck l else if k=2 then pnCheck n else 0)=0:=h;split at h
 ·omega
 rename_i hk
 split at h
 ·omega
 rename_i hf
 split at h
 ·rename_i h1
  have e2:PnSame n Pn.zero:=Decidable.not_not.1 fun q=>hf (.inr ⟨by omega,q⟩);exact .inr (.inl ⟨h1,pnSame_iff.1 e2,h⟩)
 rename_i h1
 have e1:LfSame l Lf.zero:=Decidable.not_not.1 fun q=>hf (.inl ⟨h1,q⟩);split at h
 ·rename_i h2
  exact .inr (.inr ⟨h2,lfSame_iff.1 e1,h⟩)
 rename_i h2
 have e2:PnSame n Pn.zero:=Decidable.not_not.1 fun q=>hf (.inr ⟨h2,q⟩);have e3:k=0:=by omega
 rw [lfSame_iff.1 e1,pnSame_iff.1 e2,e3];exact .inl rfl
theorem nd_ok1 {L:Nd} (h:L.kind=1) (h2:L.inner=Pn.zero) (h3:lfCheck L.leaf=0):ndCheck L=0:=by
 simp [ndCheck,h,h2,h3,pnSame_iff]
theorem nd_ok2 {L:Nd} (h:L.kind=2) (h2:L.leaf=Lf.zero) (h3:pnCheck L.inner=0):ndCheck L=0:=by
 simp [ndCheck,h,h2,h3,lfSame_iff]
theorem nd_zero:ndCheck Nd.zero=0:=by decide
theorem numOct_one (n:Int) (h:0<=n/\n<=255):numOct n (widthK 1)=[n]:=by
 rw [widthK1,numOct1,show n % 256=n by omega]
theorem ndPut1 {L:Nd} (h:ndCheck L=0) (k:L.kind=1):ndPut L=[1]++([1]++lfPut L.leaf):=by
 rw [ndPut,ndAs_ok h,if_pos k,numOct_one 1 (by decide),List.append_assoc];rfl
theorem ndPut2 {L:Nd} (h:ndCheck L=0) (k:L.kind=2):ndPut L=[1]++([2]++pnPut L.inner):=by
 rw [ndPut,ndAs_ok h,if_neg (by omega),if_pos k,numOct_one 2 (by decide),List.append_assoc];rfl
theorem ndPut0 {L:Nd} (h:(ndAs L).kind=0):ndPut L=[0]:=by
 rw [ndPut,if_neg (by omega),if_neg (by omega)];rfl
theorem ndPut_zero:ndPut Nd.zero=[0]:=ndPut0 (by rw [ndAs_ok nd_zero])
theorem flag1 (zs:List Int):flagE ([1]++zs)=0/\flagB ([1]++zs)=true/\flagR ([1]++zs)=zs:=flag_put true zs
theorem num1 (n:Int) (zs:List Int) (h:0<=n/\n<=255):numE ([n]++zs) 1=0/\numM ([n]++zs) 1=n/\numR ([n]++zs) 1=zs:=by
 have:=num1_put n zs h;rwa [numOct_one n h] at this
theorem nd_get1 (zs:List Int):ndGet ([1]++([1]++zs))=if ¬(lfGet zs).1=0 then ((lfGet zs).1,Nd.zero,[]) else (0,⟨1,(lfGet zs).2.1,Pn.zero⟩,(lfGet zs).2.2):=by
 obtain ⟨a1,a2,a3⟩:=flag1 ([1]++zs);obtain ⟨b1,b2,b3⟩:=num1 1 zs (by decide);rw [ndGet,if_neg (not_not_intro a1),if_neg (not_not_intro a2),a3,if_neg (not_not_intro b1),if_pos b2,b3]
theorem nd_get2 (zs:List Int):ndGet ([1]++([2]++zs))=if ¬(pnGet zs).1=0 then ((pnGet zs).1,Nd.zero,[]) else (0,⟨2,Lf.zero,(pnGet zs).2.1⟩,(pnGet zs).2.2):=by
 obtain ⟨a1,a2,a3⟩:=flag1 ([2]++zs);obtain ⟨b1,b2,b3⟩:=num1 2 zs (by decide);rw [ndGet,if_neg (not_not_intro a1),if_neg (not_not_intro a2),a3,if_neg (not_not_intro b1),if_neg (by rw [b2];decide),if_pos b2,b3]
theorem nd_only (hx:Bytes xs) (h:(ndGet xs).1=0):ndCheck (ndGet xs).2.1=0/\ndPut (ndGet xs).2.1++(ndGet xs).2.2=xs:=by
 by_cases h1:flagE xs=0
 ·have e1:=flag_got xs hx h1;by_cases h2:flagB xs=true
  ·rw [h2] at e1;have e1:[1]++flagR xs=xs:=e1;have hx1:Bytes (flagR xs):=bytes_rest hx e1;generalize flagR xs=ys at *;subst e1;by_cases h3:numE ys 1=0
   ·have e2:=num1_got ys hx1 h3;have hx2:Bytes (numR ys 1):=bytes_rest hx1 e2;by_cases h4:numM ys 1=1
    ·rw [h4,numOct_one 1 (by decide)] at e2;generalize numR ys 1=zs at *;subst e2;rw [nd_get1] at h ⊢;by_cases h5:(lfGet zs).1=0
     ·rw [if_neg (not_not_intro h5)];obtain ⟨c,e⟩:=lf_only hx2 h5;have ok:=nd_ok1 (L:=⟨1,(lfGet zs).2.1,Pn.zero⟩) rfl rfl c;refine ⟨ok,?_⟩;rw [ndPut1 ok rfl,List.append_assoc,List.append_assoc];show [1]++([1]++(lfPut (lfGet zs).2.1++(lfGet zs).2.2))=_;rw [e]
     rw [if_pos h5] at h;exact absurd h h5
    by_cases h4':numM ys 1=2
    ·rw [h4',numOct_one 2 (by decide)] at e2;generalize numR ys 1=zs at *;subst e2;rw [nd_get2] at h ⊢;by_cases h5:(pnGet zs).1=0
     ·rw [if_neg (not_not_intro h5)];obtain ⟨c,e⟩:=pn_only hx2 h5;have ok:=nd_ok2 (L:=⟨2,Lf.zero,(pnGet zs).2.1⟩) rfl rfl c;refine ⟨ok,?_⟩;rw [ndPut2 ok rfl,List.append_assoc,List.append_assoc];show [1]++([2]++(pnPut (pnGet zs).2.1++(pnGet zs).2.2))=_;rw [e]
     rw [if_pos h5] at h;exact absurd h h5
    obtain ⟨a1,a2,a3⟩:=flag1 ys;rw [ndGet,if_neg (not_not_intro a1),if_neg (not_not_intro a2),a3,if_neg (not_not_intro h3),if_neg h4,if_neg h4'] at h;exact absurd h (by decide)
   obtain ⟨a1,a2,a3⟩:=flag1 ys;rw [ndGet,if_neg (not_not_intro a1),if_neg (not_not_intro a2),a3,if_pos h3] at h;exact absurd h h3
  have h2':flagB xs=false:=by simpa using h2
  rw [h2'] at e1;have e1:[0]++flagR xs=xs:=e1;have e3:ndGet xs=(0,Nd.zero,flagR xs):=by rw [ndGet,if_neg (not_not_intro h1),if_pos h2]
  rw [e3];exact ⟨nd_zero,by rw [ndPut_zero];exact e1⟩
 rw [ndGet,if_pos h1] at h;exact absurd h h1
-- what is summed up
-- one behind the other
/- NdRow:
  Slices of nodes, as they read.
-/
def RwNd [Lo] (w:World) (B:Nat) (s:SlV) (Ls:List Nd):Prop:=s.m<=s.c/\s.c<=maxLen/\Ls.length=s.m /\
 (0<s.m->∃ b o,s.A=some ⟨b,o,none⟩/\b<B/\∀ i L,Ls[i]?=some L->∃ l:NdV,IsNd w B l L/\∀ j u,(l.cs L)[j]?=some u->w.cell? ⟨b,o+i*8+j,none⟩=some u)
theorem RwNd.below [Lo] {w:World} {Ls:List Nd} (h:RwNd w B s Ls) (g:Below B w w'):RwNd w' B s Ls:=by
 refine ⟨h.1,h.2.1,h.2.2.1,fun hm=>?_⟩;obtain ⟨b,o,e,hB,hc⟩:=h.2.2.2 hm;refine ⟨b,o,e,hB,fun i L hL=>?_⟩;obtain ⟨l,hl,hj⟩:=hc i L hL;exact ⟨l,hl.below g,fun j u hu=>(g.cell (p:=⟨b,o+i*8+j,none⟩) hB).trans (hj j u hu)⟩
theorem RwNd.more [Lo] {w:World} {B':Nat} {Ls:List Nd} (h:RwNd w B s Ls) (g:B<=B'):RwNd w B' s Ls:=by
 refine ⟨h.1,h.2.1,h.2.2.1,fun hm=>?_⟩;obtain ⟨b,o,e,hB,hc⟩:=h.2.2.2 hm;refine ⟨b,o,e,by omega,fun i L hL=>?_⟩;obtain ⟨l,hl,hj⟩:=hc i L hL;exact ⟨l,hl.more g,hj⟩
theorem RwNd.mW [Lo] {w:World} {Ls:List Nd} (h:RwNd w B s Ls) (q:World) (b:B<=q.heap.size:=by omega):RwNd w q.heap.size s Ls:=h.more b
theorem RwNd.len [Lo] {w:World} {Ls:List Nd} (h:RwNd w B s Ls):Ls.length=s.m:=h.2.2.1
theorem RwNd.at [Lo] {w:World} {Ls:List Nd} (h:RwNd w B s Ls) (i:Nat) (hi:i<s.m):∃ (b o:Nat) (l:NdV) (L:Nd),s.A=some ⟨b,o,none⟩/\b<B/\Ls[i]?=some L/\IsNd w B l L/\∀ j u,(l.cs L)[j]?=some u->w.cell? ⟨b,o+i*8+j,none⟩=some u:=by
 obtain ⟨b,o,e,hB,hc⟩:=h.2.2.2 (by omega);have hl:i<Ls.length:=by rw [h.len];exact hi
 obtain ⟨l,h1,h2⟩:=hc i Ls[i] (List.getElem?_eq_getElem hl);exact ⟨b,o,l,Ls[i],e,hB,List.getElem?_eq_getElem hl,h1,h2⟩
end Go.Proofs.YtjjdcnkbibkmkaaGreatDoor
