/-
  KitN: Rise, WiS, WiF, WiT, LfBase, LfMath, PnBase, PnMath, NdBase, NdMath, NdRow.
-/
import Derived.Test.YtognnnjdoemgfaaGreatDoorRows
import Derived.Lib.SlicesCompact
import Derived.Test.YtognnnjdoemgfaaGreatDoorKitA
import Derived.Test.YtognnnjdoemgfaaGreatDoorKitR
import Derived.Test.YtognnnjdoemgfaaGreatDoorKitV
namespace Go.Proofs.YtognnnjdoemgfaaGreatDoor
open Go.ChangeShapes Go.WideShapes Go.ChangeAt Go.RowKit
set_option linter.unusedVariables false

/- Rise:
  Lists of whole numbers that rise: what a number laid into one makes of it; that they are told by their members; what sorting and leaving out neighbours that are the same makes.
-/
/-- A number laid into a rising list, once. -/
def insU (x:Int):List Int→List Int
 | []=>[x]
 | y::r=>if x<y then x::y::r else if x=y then y::r else y::insU x r
/-- The numbers of a list, rising, each once. -/
def riseU:List Int→List Int
 | []=>[]
 | x::r=>insU x (riseU r)
abbrev Rising (l:List Int):Prop:=l.Pairwise (·<·)
theorem insU_mem {x y:Int}:∀ {l:List Int},y∈insU x l↔y=x∨y∈l
 | []=>by simp [insU]
 | z::r=>by
  unfold insU
  split
  ·simp
  split
  ·rename_i h1 h2
   subst h2
   simp
  simp only [List.mem_cons,insU_mem (l:=r)]
  constructor
  ·rintro (h | h | h)<;>simp [h]
  rintro (h | h | h)<;>simp [h]
theorem insU_rising {x:Int}:∀ {l:List Int},Rising l→Rising (insU x l)
 | [],_=>by simp [insU]
 | z::r,h=>by
  have h1:=List.pairwise_cons.1 h
  unfold insU
  split
  ·rename_i hx
   exact List.pairwise_cons.2 ⟨fun b hb=>by
    rcases List.mem_cons.1 hb with rfl | hb
    ·exact hx
    have:=h1.1 b hb;omega,h⟩
  split
  ·exact h
  rename_i h2 h3
  refine List.pairwise_cons.2 ⟨fun b hb=>?_,insU_rising h1.2⟩
  rcases insU_mem.1 hb with rfl | hb
  ·omega
  exact h1.1 b hb
theorem riseU_mem {y:Int}:∀ {l:List Int},y∈riseU l↔y∈l
 | []=>Iff.rfl
 | x::r=>by
  unfold riseU
  rw [insU_mem,riseU_mem (l:=r),List.mem_cons]
theorem riseU_rising:∀ (l:List Int),Rising (riseU l)
 | []=>List.Pairwise.nil
 | x::r=>insU_rising (riseU_rising r)
theorem rising_ext:∀ {l m:List Int},Rising l→Rising m→(∀ x,x∈l↔x∈m)→l=m
 | [],[],_,_,_=>rfl
 | [],y::s,_,_,h=>absurd ((h y).2 (by simp)) (by simp)
 | x::r,[],_,_,h=>absurd ((h x).1 (by simp)) (by simp)
 | x::r,y::s,hl,hm,h=>by
  have h1:=List.pairwise_cons.1 hl
  have h2:=List.pairwise_cons.1 hm
  have e:x=y:=by
   rcases List.mem_cons.1 ((h x).1 (by simp)) with e | e
   ·exact e
   rcases List.mem_cons.1 ((h y).2 (by simp)) with e2 | e2
   ·exact e2.symm
   have:=h2.1 x e
   have:=h1.1 y e2
   omega
  subst e
  rw [rising_ext h1.2 h2.2 fun z=>?_]
  have hz:=h z
  constructor
  ·intro hm'
   rcases List.mem_cons.1 (hz.1 (by simp [hm'])) with e | e
   ·subst e;have:=h1.1 z hm';omega
   exact e
  intro hm'
  rcases List.mem_cons.1 (hz.2 (by simp [hm'])) with e | e
  ·subst e;have:=h2.1 z hm';omega
  exact e
theorem insU_length (x:Int):∀ (l:List Int),(insU x l).length≤l.length+1
 | []=>by simp [insU]
 | y::r=>by
  unfold insU
  split
  ·simp
  split
  ·simp
  simp only [List.length_cons];have:=insU_length x r;omega
theorem riseU_length:∀ (l:List Int),(riseU l).length≤l.length
 | []=>Nat.le_refl _
 | x::r=>by
  have h1:=insU_length x (riseU r)
  have h2:=riseU_length r
  unfold riseU
  simp only [List.length_cons]
  omega
theorem rising_at {l:List Int} (h:Rising l) {i j:Nat} (hij:i<j) (hj:j<l.length):l.getD i 0<l.getD j 0:=by
 have:=List.pairwise_iff_getElem.1 h i j (by omega) hj hij
 simpa [List.getD_eq_getElem?_getD,show i<l.length by omega,hj] using this
theorem rising_of {l:List Int} (h:∀ i,i+1<l.length→l.getD i 0<l.getD (i+1) 0):Rising l:=by
 have key:∀ d i,i+d+1<l.length→l.getD i 0<l.getD (i+d+1) 0:=by
  intro d
  induction d with
  | zero=>intro i hi;exact h i hi
  | succ d ih =>
   intro i hi
   have h1:=ih i (by omega)
   have h2:=h (i+d+1) (by omega)
   have e:i+(d+1)+1=i+d+1+1:=by omega
   rw [e]
   omega
 refine List.pairwise_iff_getElem.2 fun i j hi hj hij=>?_
 have:=key (j-i-1) i (by omega)
 rw [show i+(j-i-1)+1=j by omega] at this
 simpa [List.getD_eq_getElem?_getD,hi,hj] using this
theorem not_rising {l:List Int} {i:Nat} (hi:i+1<l.length) (h:l.getD (i+1) 0≤l.getD i 0):¬Rising l:=fun q=>by
 have:=rising_at q (show i<i+1 by omega) hi
 omega
theorem rising_le {l:List Int} (h:Rising l):l.Pairwise (·≤·):=h.imp fun h=>Int.le_of_lt h
theorem getD_mem {l:List Int} {i:Nat} (h:i<l.length):l.getD i 0∈l:=by
 rw [List.getD_eq_getElem?_getD,List.getElem?_eq_getElem h]
 exact List.getElem_mem h
theorem mem_getD {l:List Int} {x:Int} (h:x∈l):∃ i,i<l.length∧l.getD i 0=x:=by
 obtain ⟨i,hi,rfl⟩:=List.getElem_of_mem h
 exact ⟨i,hi,by rw [List.getD_eq_getElem?_getD,List.getElem?_eq_getElem hi];rfl⟩
-- sorted, and without neighbours that are the same
section
open Go.Lib
theorem get_bang {zs:List Int} {j:Nat} (h:j<zs.length):zs.toArray[j]! = zs[j]:=by simp [h]
theorem compact_mem (zs:List Int) (x:Int):x∈compact zs↔x∈zs:=by
 unfold compact compactUpTo
 rw [List.mem_map]
 constructor
 ·rintro ⟨j,hj,rfl⟩
  rw [List.mem_filter,List.mem_range] at hj
  rw [get_bang hj.1]
  exact List.getElem_mem hj.1
 intro h
 obtain ⟨i,hi,rfl⟩:=List.getElem_of_mem h
 have key:∀ i (hi:i<zs.length),∃ a,a∈(List.range zs.length).filter (keeps zs.toArray)∧zs.toArray[a]! = zs[i]:=by
  intro i
  induction i with
  | zero=>exact fun hi=>⟨0,by rw [List.mem_filter,List.mem_range];exact ⟨hi,by simp [keeps]⟩,get_bang hi⟩
  | succ i ih =>
   intro hi
   by_cases e:zs[i+1]=zs[i]
   ·obtain ⟨a,h1,h2⟩:=ih (by omega)
    exact ⟨a,h1,h2.trans e.symm⟩
   refine ⟨i+1,?_,get_bang hi⟩
   rw [List.mem_filter,List.mem_range]
   refine ⟨hi,?_⟩
   unfold keeps
   rw [decide_eq_true_iff]
   exact .inr (by rw [get_bang hi,Nat.add_sub_cancel,get_bang (by omega)];exact e)
 exact key i hi
theorem compact_rising {zs:List Int} (h:zs.Pairwise (·≤·)):Rising (compact zs):=by
 unfold compact compactUpTo
 rw [Rising,List.pairwise_map,List.pairwise_filter]
 have hr:(List.range zs.length).Pairwise (fun a b=>a<b∧b<zs.length):=by
  refine List.pairwise_iff_getElem.2 fun i j hi hj hij=>?_
  rw [List.length_range] at hi hj
  simp only [List.getElem_range]
  exact ⟨hij,hj⟩
 refine hr.imp fun {a b} hab ha hb=>?_
 obtain ⟨hab,hbl⟩:=hab
 have hb':b=0∨zs.toArray[b]! ≠ zs.toArray[b-1]! := by simpa [keeps] using hb
 rcases hb' with hb' | hb'
 ·omega
 rw [get_bang hbl,get_bang (by omega)] at hb'
 rw [get_bang (by omega),get_bang hbl]
 have h1:zs[b-1]≤zs[b]:=List.pairwise_iff_getElem.1 h (b-1) b (by omega) hbl (by omega)
 by_cases e:a=b-1
 ·subst e
  omega
 have h2:zs[a]≤zs[b-1]:=List.pairwise_iff_getElem.1 h a (b-1) (by omega) (by omega) (by omega)
 omega
theorem compact_sorted (zs:List Int):compact (zs.mergeSort fun x y=>decide (x≤y))=riseU zs:=by
 refine rising_ext (compact_rising ?_) (riseU_rising zs) fun x=>?_
 ·have:=List.pairwise_mergeSort (le:=fun (x y:Int)=>decide (x≤y)) (fun a b c h1 h2=>by simp at *;omega) (fun a b=>by simp;omega) zs
  exact this.imp fun h=>by simpa using h
 rw [compact_mem,riseU_mem]
 exact List.mem_mergeSort
end
-- what is joined, and what is cut
def cutK (l i:List Int):List Int:=l.filter fun x=>decide (x∉i)
theorem cutK_mem {l i:List Int} {x:Int}:x∈cutK l i↔x∈l∧x∉i:=by simp [cutK]
theorem cutK_length (l i:List Int):(cutK l i).length≤l.length:=List.length_filter_le _ _
theorem cutK_take {l i:List Int} {t:Nat} (h:t<l.length):cutK (l.take (t+1)) i=cutK (l.take t) i++(if l.getD t 0∈i then [] else [l.getD t 0]):=by
 have e:l.getD t 0=l[t]:=by rw [List.getD_eq_getElem?_getD,List.getElem?_eq_getElem h];rfl
 rw [List.take_succ_eq_append_getElem h,cutK,List.filter_append,e]
 by_cases hm:l[t]∈i<;>simp [cutK,hm]
theorem cutK_congr {l i j:List Int} (h:∀ x,x∈i↔x∈j):cutK l i=cutK l j:=by
 unfold cutK
 exact List.filter_congr fun x _=>by simp [h x]
theorem cutK_rising {l i:List Int} (h:Rising l):Rising (cutK l i):=List.Pairwise.filter _ h
/- WiS:
  Contracts of wire, and of the document's answers for it, with slices of octets as one letter each.
-/
section
variable {w:World} {B B2:Nat} {s s2:SlV} {xs vs:List Int}
theorem Sl.top (h:Sl w B s xs) (hB:B≤w.heap.size):Sl w w.heap.size s xs:=h.more hB
def GotTwoS (w:World) (B:Nat) (xs:List Int) (v:Value) (w':World):Prop :=
 ∃ p r:SlV,v=.tuple #[p.v,r.v,nv (bytesE xs)]∧Sl w' B p (bytesP xs)∧Sl w' B r (bytesR xs)∧Below w.heap.size w w'
def GotIntS (w:World) (B:Nat) (xs:List Int) (k:Int) (v:Value) (w':World):Prop :=
 ∃ r:SlV,v=.tuple #[nv (numM xs k),r.v,nv (numE xs k)]∧Sl w' B r (numR xs k)∧Below w.heap.size w w'
def PutS (w:World) (ys:List Int) (v:Value) (w':World):Prop:=∃ r:SlV,v=r.v∧Sl w' w'.heap.size r ys∧Below w.heap.size w w'
theorem PutS.of {w':World} {ys:List Int} {e:Ending} (h:PutSl w ys e w'):∃ v,e=.returned v∧PutS w ys v w':=by
 obtain ⟨A,n,c,rfl,h1,h2,h3,h4⟩:=h
 exact ⟨_,rfl,⟨A,n,c⟩,rfl,⟨h1,h2,h3⟩,h4⟩
theorem GotTwoS.of {w':World} {e:Ending} (h:GotTwo w B (bytesP xs) (bytesR xs) (bytesE xs) e w'):∃ v,e=.returned v∧GotTwoS w B xs v w':=by
 obtain ⟨A1,n1,c1,A,n,c,rfl,h1,h2,h3,h4,h5,h6,h7⟩:=h
 exact ⟨_,rfl,⟨A1,n1,c1⟩,⟨A,n,c⟩,rfl,⟨h1,h2,h5⟩,⟨h3,h4,h6⟩,h7⟩
theorem GotIntS.of {w':World} {e:Ending} {k:Int} (h:GotInt w B (numM xs k) (numR xs k) (numE xs k) e w'):∃ v,e=.returned v∧GotIntS w B xs k v w':=by
 obtain ⟨A,n,c,rfl,h3,h4,h6,h7⟩:=h
 exact ⟨_,rfl,⟨A,n,c⟩,rfl,⟨h3,h4,h6⟩,h7⟩
theorem getBytes_S (h:Sl w B s xs) (hB:B≤w.heap.size):Calls Tryz.prog 45 #[s.v] w fun e w'=>∃ v,e=.returned v∧GotTwoS w B xs v w' :=
 (getBytes_any s.A s.m s.c B xs w h.2.2 h.1 h.2.1 hB).mono fun _ _ q=>GotTwoS.of q
theorem rgetBytes_S (h:Sl w B s xs) (hB:B≤w.heap.size):Calls Tryz.prog 21 #[s.v] w fun e w'=>∃ v,e=.returned v∧GotTwoS w B xs v w' :=
 (rgetBytes_any s.A s.m s.c B xs w h.2.2 h.1 h.2.1 hB).mono fun _ _ q=>GotTwoS.of q
theorem getNum_S (k:Int) (h:Sl w B s xs) (hB:B≤w.heap.size):Calls Tryz.prog 125 #[s.v,nv k] w fun e w'=>∃ v,e=.returned v∧GotIntS w B xs k v w' :=
 (getNum_any s.A s.m s.c B xs k w h.2.2 h.1 h.2.1).mono fun _ _ q=>GotIntS.of q
theorem rgetNum_S (k:Int) (h:Sl w B s xs) (hB:B≤w.heap.size):Calls Tryz.prog 50 #[s.v,nv k] w fun e w'=>∃ v,e=.returned v∧GotIntS w B xs k v w' :=
 (rgetNum_any s.A s.m s.c B xs k w h.2.2 h.1 h.2.1).mono fun _ _ q=>GotIntS.of q
theorem putBytes_S (h:Sl w B s xs) (h2:Sl w B2 s2 vs) (hB:B≤w.heap.size) (hB2:B2≤w.heap.size) (hn:xs.length≤35184372088832):Calls Tryz.prog 30 #[s.v,s2.v] w fun e w'=>∃ v,e=.returned v∧PutS w (xs++bytesOct vs) v w' :=
 (putBytes_any s.A s2.A s.m s.c s2.m s2.c w.heap.size xs vs w (h.top hB).2.2 (h2.top hB2).2.2 (Nat.le_refl _) h.1 h.2.1 (by rw [←h.len];exact hn)).mono fun _ _ q=>PutS.of q
theorem rputBytes_S (h:Sl w B s xs) (h2:Sl w B2 s2 vs) (hB:B≤w.heap.size) (hB2:B2≤w.heap.size) (hn:xs.length≤90000) (hn2:vs.length≤90000):Calls Tryz.prog 33 #[s.v,s2.v] w fun e w'=>∃ v,e=.returned v∧PutS w (xs++bytesOct vs) v w' :=
 (rputBytes_any s.A s2.A s.m s.c s2.m s2.c w.heap.size xs vs w (h.top hB).2.2 (h2.top hB2).2.2 (Nat.le_refl _) (by rw [←h.len];exact hn) (by rw [←h2.len];exact hn2)).mono fun _ _ q=>PutS.of q
theorem putNum_S (m k:Int) (h:Sl w B s xs) (hB:B≤w.heap.size) (hn:xs.length≤35184372088832):Calls Tryz.prog 65 #[s.v,nv m,nv k] w fun e w'=>∃ v,e=.returned v∧PutS w (xs++numOct m (widthK k)) v w' :=
 (putNum_any s.A s.m s.c B xs m k w h.2.2 hB (by rw [←h.len];exact hn)).mono fun _ _ q=>PutS.of q
theorem rputNum_S (m k:Int) (h:Sl w B s xs) (hB:B≤w.heap.size) (hn:xs.length≤90000):Calls Tryz.prog 70 #[s.v,nv m,nv k] w fun e w'=>∃ v,e=.returned v∧PutS w (xs++numOct m (widthK k)) v w' :=
 (rputNum_any s.A s.m s.c B xs m k w h.2.2 hB (by rw [←h.len];omega)).mono fun _ _ q=>PutS.of q
/-- slices.Concat of two, in a row of one's own. -/
theorem concat2_S {b:Nat} {t:TypeId} (r:RowAt w b t #[s.v,s2.v]) (h:Sl w B s xs) (h2:Sl w B2 s2 vs) (hB:B≤w.heap.size) (hB2:B2≤w.heap.size) (hn:xs.length+vs.length≤70368744177664) :
  Calls Tryz.prog 66 #[.slice (some ⟨b,0,none⟩) 2 2] w fun e w'=>∃ v,e=.returned v∧PutS w (xs++vs) v w' :=
 (concat_two b s.m s2.m s.c s2.c w.heap.size s.A s2.A xs vs w (h.top hB).2.2 (h2.top hB2).2.2 (Nat.le_refl _) r.lt (by rw [cell_of_row w b 0 _ t _ r];rfl) (by rw [cell_of_row w b 1 _ t _ r];rfl) (by rw [←h.len,←h2.len];exact hn)).mono fun e w' q=>by
  obtain ⟨v,rfl,how,hb,hs⟩:=q
  obtain ⟨r,rfl,hr⟩:=own_Sl how (h.bytes.app h2.bytes)
  exact ⟨_,rfl,r,rfl,hr,hb⟩
theorem bytesOct_le (vs:List Int):(bytesOct vs).length≤vs.length+4:=by
 unfold bytesOct
 split
 ·simp
 rw [List.length_append]
 have:=octN_le (vs.length:Int)
 omega
/-- bytes.Equal. -/
theorem bytesEq_S (h:Sl w B s xs) (h2:Sl w B2 s2 vs):Calls Tryz.prog 111 #[s.v,s2.v] w fun e w'=>e=.returned (.bool (decide (xs=vs)))∧w'=w:=by
 refine Qf (n:=10) Tryz.func111 rfl Tryz.ntmps111 (by simp) ?_
 show CG _ _ _ [(0,s.v),(1,s2.v)] _ _
 refine ZrA ?_
 refine Zn [0,1] ?_
 refine ZrM ?_
 refine Za (y_strS h) ?_
 refine ZM ?_
 refine Za (y_strS h2) ?_
 refine Za (y_seqS h.bytes h2.bytes) ?_
 refine ZAnr [4] ?_
 exact Qa rfl rfl ⟨rfl,rfl⟩
end
/- WiF:
  Flags, with slices of octets as one letter each.
-/
/-- A flag, the rest and an error. -/
def GotFlagS (w:World) (B:Nat) (xs:List Int) (v:Value) (w':World):Prop :=
 ∃ (b:Bool) (r:SlV),v=.tuple #[.bool b,r.v,nv (flagE xs)]∧b=decide (flagB xs=true)∧Sl w' B r (flagR xs)∧Below w.heap.size w w'
section
variable {w w':World} {B:Nat} {s:SlV} {xs:List Int} {e:Ending}
theorem GotFlagS.of (h:GotFlag w B (flagB xs) (flagR xs) (flagE xs) e w'):∃ v,e=.returned v∧GotFlagS w B xs v w':=by
 obtain ⟨A,n,c,rfl,h3,h4,h6,h7⟩:=h
 exact ⟨_,rfl,_,⟨A,n,c⟩,rfl,by simp,⟨h3,h4,h6⟩,h7⟩
theorem getFlag_S (h:Sl w B s xs):Calls Tryz.prog 124 #[s.v] w fun e w'=>∃ v,e=.returned v∧GotFlagS w B xs v w' :=
 (getFlag_any s.A s.m s.c B xs w h.2.2 h.1 h.2.1).mono fun _ _ q=>GotFlagS.of q
theorem rgetFlag_S (h:Sl w B s xs):Calls Tryz.prog 49 #[s.v] w fun e w'=>∃ v,e=.returned v∧GotFlagS w B xs v w' :=
 (rgetFlag_any s.A s.m s.c B xs w h.2.2 h.1 h.2.1).mono fun _ _ q=>GotFlagS.of q
theorem putFlag_S (b:Bool) (h:Sl w B s xs) (hB:B≤w.heap.size) (hn:xs.length≤35184372088832):Calls Tryz.prog 64 #[s.v,.bool b] w fun e w'=>∃ v,e=.returned v∧PutS w (xs++flagOct b) v w' :=
 (putFlag_any s.A s.m s.c B xs b w h.2.2 hB (by rw [←h.len];exact hn)).mono fun _ _ q=>PutS.of q
theorem rputFlag_S (b:Bool) (h:Sl w B s xs) (hB:B≤w.heap.size) (hn:xs.length≤90000):Calls Tryz.prog 69 #[s.v,.bool b] w fun e w'=>∃ v,e=.returned v∧PutS w (xs++flagOct b) v w' :=
 (rputFlag_any s.A s.m s.c B xs b w h.2.2 hB (by rw [←h.len];omega)).mono fun _ _ q=>PutS.of q
theorem flagOct_length (b:Bool):(flagOct b).length=1:=rfl
end
/- WiT:
  Contracts of wire's lists, and of the document's, with slices as one letter each.
-/
section
variable {w:World} {B B2:Nat} {s s2:SlV} {xs vs ls:List Int}
def GotNumsS (w:World) (B:Nat) (xs:List Int) (v:Value) (w':World):Prop :=
 ∃ p r:SlV,v=.tuple #[p.v,r.v,nv (numsE xs)]∧SlN w' w'.heap.size p (numsL xs)∧Sl w' B r (numsR xs)∧Below w.heap.size w w'
theorem GotNumsS.of {w':World} {e:Ending} (h:GotNums w B (numsL xs) (numsR xs) (numsE xs) e w'):∃ v,e=.returned v∧GotNumsS w B xs v w':=by
 obtain ⟨A1,n1,c1,A,n,c,rfl,h1,h2,h3,h4,h5,h6,h7⟩:=h
 exact ⟨_,rfl,⟨A1,n1,c1⟩,⟨A,n,c⟩,rfl,⟨h1,h2,h5⟩,⟨h3,h4,h6⟩,h7⟩
/-- As GotNumsS; the numbers lie in a block that was not there. -/
def GotNumsSF (w:World) (B:Nat) (xs:List Int) (v:Value) (w':World):Prop :=
 ∃ p r:SlV,v=.tuple #[p.v,r.v,nv (numsE xs)]∧SlN w' w'.heap.size p (numsL xs)∧Sl w' B r (numsR xs)∧Fr w.heap.size p∧Below w.heap.size w w'
theorem GotNumsSF.of {w':World} {e:Ending} (h:GotNumsF w B (numsL xs) (numsR xs) (numsE xs) e w'):∃ v,e=.returned v∧GotNumsSF w B xs v w':=by
 obtain ⟨A1,n1,c1,A,n,c,rfl,h1,h2,h3,h4,h5,h6,h7,h8⟩:=h
 exact ⟨_,rfl,⟨A1,n1,c1⟩,⟨A,n,c⟩,rfl,⟨h1,h2,h5⟩,⟨h3,h4,h6⟩,h8,h7⟩
theorem getNums_SF (h:Sl w B s xs) (hB:B≤w.heap.size):Calls Tryz.prog 147 #[s.v] w fun e w'=>∃ v,e=.returned v∧GotNumsSF w B xs v w' :=
 (getNums_anyF s.A s.m s.c B xs w h.2.2 h.1 h.2.1 hB).mono fun _ _ q=>GotNumsSF.of q
theorem rgetNums_SF (h:Sl w B s xs) (hB:B≤w.heap.size):Calls Tryz.prog 86 #[s.v] w fun e w'=>∃ v,e=.returned v∧GotNumsSF w B xs v w' :=
 (rgetNums_anyF s.A s.m s.c B xs w h.2.2 h.1 h.2.1 hB).mono fun _ _ q=>GotNumsSF.of q
theorem putNums_S (h:Sl w B s xs) (h2:SlN w B2 s2 ls) (hB:B≤w.heap.size) (hB2:B2≤w.heap.size) (hn:xs.length≤35184372088832):Calls Tryz.prog 146 #[s.v,s2.v] w fun e w'=>∃ v,e=.returned v∧PutS w (xs++bytesOct (numsOct ls)) v w' :=
 (putNums_any s.A s2.A s.m s.c s2.m s2.c w.heap.size xs ls w (h.top hB).2.2 (h2.more hB2).2.2 (Nat.le_refl _) h.1 h.2.1 (by rw [←h.len];exact hn)).mono fun _ _ q=>PutS.of q
theorem rputNums_S (h:Sl w B s xs) (h2:SlN w B2 s2 ls) (hB:B≤w.heap.size) (hB2:B2≤w.heap.size) (hn:xs.length≤90000) (hn2:ls.length≤20000):Calls Tryz.prog 110 #[s.v,s2.v] w fun e w'=>∃ v,e=.returned v∧PutS w (xs++bytesOct (numsOct ls)) v w' :=
 (rputNums_any s.A s2.A s.m s.c s2.m s2.c w.heap.size xs ls w (h.top hB).2.2 (h2.more hB2).2.2 (Nat.le_refl _) (by rw [←h.len];exact hn) (by rw [←h2.len];exact hn2)).mono fun _ _ q=>PutS.of q
end
/- LfBase:
  Leaves in memory, and what the document says of them.
-/
/-- Where the slices of a Lf lie. -/
structure LfV where
 enc:SlV
 cred:SlV
 par:SlV
/-- What a Lf says. -/
structure Lf where
 enc:List Int
 cred:List Int
 src:Int
 par:List Int
abbrev LfV.cs (l:LfV) (L:Lf):Array Value:=#[l.enc.v,l.cred.v,nv L.src,l.par.v]
structure IsLf (w:World) (B:Nat) (l:LfV) (L:Lf):Prop where
 enc:Sl w B l.enc L.enc
 cred:Sl w B l.cred L.cred
 par:Sl w B l.par L.par
section
variable {w w':World} {B B':Nat} {l:LfV} {L:Lf}
theorem IsLf.below (h:IsLf w B l L) (b:Below B w w'):IsLf w' B l L:=⟨h.enc.below b,h.cred.below b,h.par.below b⟩
theorem IsLf.more (h:IsLf w B l L) (b:B≤B'):IsLf w B' l L:=⟨h.enc.more b,h.cred.more b,h.par.more b⟩
theorem IsLf.set {c:Nat} {old new:Array Value} {t t':TypeId} (h:IsLf w B l L) (r:RowAt w c t old) (no:old.toList.all noU8=true) (st:Set1 w w' c t' new):IsLf w' B l L:=⟨h.enc.set r no st,h.cred.set r no st,h.par.set r no st⟩
abbrev LfV.zero:LfV:=⟨nilS,nilS,nilS⟩
abbrev Lf.zero:Lf:=⟨[],[],0,[]⟩
def LfV.old (B:Nat) (l:LfV):Prop:=Old B l.enc∧Old B l.cred∧Old B l.par
theorem IsLf.old (h:IsLf w B l L):l.old B:=⟨h.enc.old,h.cred.old,h.par.old⟩
theorem IsLf.zero (w:World) (B:Nat):IsLf w B LfV.zero Lf.zero:=⟨Sl.nil _ _,Sl.nil _ _,Sl.nil _ _⟩
end

/-- What is wrong with a leaf. -/
def lfCheck (L:Lf):Int :=
 if (L.enc.length:Int)=0 then 5
 else if 200<(L.enc.length:Int)∨200<(L.cred.length:Int)∨200<(L.par.length:Int) then 4
 else if ¬(1≤L.src∧L.src≤3) then 7
 else if 0<(L.par.length:Int)∧L.src≠3 then 2
 else 0
/-- The octets of a leaf. -/
def lfOct (L:Lf):List Int:=bytesOct L.enc++bytesOct L.cred++numOct L.src (widthK 1)++(if L.src=3 then bytesOct L.par else [])
def lfPut (L:Lf):List Int:=if lfCheck L=0 then lfOct L else []
def lfFew (L:Lf):Prop:=IntKind.i64.wrap (IntKind.i64.wrap ((L.enc.length:Int)+(L.cred.length:Int))+(L.par.length:Int))≤1000
instance (L:Lf):Decidable (lfFew L):=by unfold lfFew;infer_instance
def LfSame (L M:Lf):Prop:=L.enc=M.enc∧L.cred=M.cred∧L.src=M.src∧L.par=M.par
instance (L M:Lf):Decidable (LfSame L M):=by unfold LfSame;infer_instance
theorem LfSame.eq {L M:Lf} (h:LfSame L M):L=M:=by
 obtain ⟨a,b,c,d⟩:=L
 obtain ⟨a',b',c',d'⟩:=M
 obtain ⟨h1,h2,h3,h4⟩:=h
 simp only at h1 h2 h3 h4
 subst h1 h2 h3 h4
 rfl
theorem lfSame_iff {L M:Lf}:LfSame L M↔L=M:=⟨LfSame.eq,fun h=>h▸⟨rfl,rfl,rfl,rfl⟩⟩
/-- The reading of a leaf: the error, the leaf, the rest. -/
def lfGet (xs:List Int):Int × Lf × List Int :=
 if bytesE xs≠0 then (bytesE xs,Lf.zero,[])
 else if bytesE (bytesR xs)≠0 then (bytesE (bytesR xs),Lf.zero,[])
 else
  let ys:=bytesR (bytesR xs)
  if numE ys 1≠0 then (numE ys 1,Lf.zero,[])
  else if ¬(1≤numM ys 1∧numM ys 1≤3) then (7,Lf.zero,[])
  else if numM ys 1=3 then
   if bytesE (numR ys 1)≠0 then (bytesE (numR ys 1),Lf.zero,[])
   else
    let L:Lf:=⟨bytesP xs,bytesP (bytesR xs),numM ys 1,bytesP (numR ys 1)⟩
    if lfCheck L≠0 then (lfCheck L,Lf.zero,[]) else (0,L,bytesR (numR ys 1))
  else
   let L:Lf:=⟨bytesP xs,bytesP (bytesR xs),numM ys 1,[]⟩
   if lfCheck L≠0 then (lfCheck L,Lf.zero,[]) else (0,L,numR ys 1)
/-- What one closure of Get does: reads octets where there is no error yet. -/
def stepB (xs:List Int) (e:Int):List Int × List Int × Int:=if e=0 then (bytesP xs,bytesR xs,bytesE xs) else ([],xs,e)
def stepN (xs:List Int) (e:Int):Int × List Int × Int :=
 if e=0 then
  if numE xs 1=0 then (numM xs 1,numR xs 1,if 1≤numM xs 1∧numM xs 1≤3 then 0 else 7) else (numM xs 1,numR xs 1,numE xs 1)
 else (0,xs,e)
theorem lfCheck_ok {L:Lf} (h:lfCheck L=0):0<L.enc.length∧L.enc.length≤200∧L.cred.length≤200∧L.par.length≤200∧1≤L.src∧L.src≤3∧(L.par.length=0∨L.src=3):=by
 unfold lfCheck at h
 repeat' split at h
 all_goals omega
def gA (xs:List Int):List Int × List Int × Int:=stepB xs 0
def gB (xs:List Int):List Int × List Int × Int:=stepB (gA xs).2.1 (gA xs).2.2
def gC (xs:List Int):Int × List Int × Int:=stepN (gB xs).2.1 (gB xs).2.2
def gD (xs:List Int):List Int × List Int × Int:=stepB (gC xs).2.1 (gC xs).2.2
theorem lfGet_steps (xs:List Int):lfGet xs =
  if (gC xs).1=3 then
   if (gD xs).2.2=0 then
    if lfCheck (⟨(gA xs).1,(gB xs).1,(gC xs).1,(gD xs).1⟩:Lf)=0 then (0,(⟨(gA xs).1,(gB xs).1,(gC xs).1,(gD xs).1⟩:Lf),(gD xs).2.1)
    else (lfCheck (⟨(gA xs).1,(gB xs).1,(gC xs).1,(gD xs).1⟩:Lf),Lf.zero,[])
   else ((gD xs).2.2,Lf.zero,[])
  else
   if (gC xs).2.2=0 then
    if lfCheck (⟨(gA xs).1,(gB xs).1,(gC xs).1,[]⟩:Lf)=0 then (0,(⟨(gA xs).1,(gB xs).1,(gC xs).1,[]⟩:Lf),(gC xs).2.1)
    else (lfCheck (⟨(gA xs).1,(gB xs).1,(gC xs).1,[]⟩:Lf),Lf.zero,[])
   else ((gC xs).2.2,Lf.zero,[]):=by
 unfold lfGet
 by_cases h1:bytesE xs=0
 ·by_cases h2:bytesE (bytesR xs)=0
  ·by_cases h3:numE (bytesR (bytesR xs)) 1=0
   ·by_cases h4:1≤numM (bytesR (bytesR xs)) 1∧numM (bytesR (bytesR xs)) 1≤3
    ·by_cases h5:numM (bytesR (bytesR xs)) 1=3
     ·by_cases h6:bytesE (numR (bytesR (bytesR xs)) 1)=0
      ·simp [gD,gC,gB,gA,stepB,stepN,h1,h2,h3,h5,h6,apply_ite]
      simp [gD,gC,gB,gA,stepB,stepN,h1,h2,h3,h5,h6]
     simp [gC,gB,gA,stepB,stepN,h1,h2,h3,h4,h5]
    simp [gD,gC,gB,gA,stepB,stepN,h1,h2,h3,h4]
   simp [gD,gC,gB,gA,stepB,stepN,h1,h2,h3]
  simp [gC,gB,gA,stepB,stepN,h1,h2]
 simp [gC,gB,gA,stepB,stepN,h1]
/- LfMath:
  What is put of leaves is got; what is got was put; unlike leaves have unlike octets: by pure means.
-/
theorem widthK1:widthK 1=1:=rfl
theorem lfPut_ok {L:Lf} (h:lfCheck L=0):lfPut L=lfOct L:=by rw [lfPut,if_pos h]
theorem lfPut_no {L:Lf} (h:¬lfCheck L=0):lfPut L=[]:=by rw [lfPut,if_neg h]
theorem lfPut_le (L:Lf):(lfPut L).length≤613:=by
 by_cases h:lfCheck L=0
 ·have ok:=lfCheck_ok h
  have h1:=bytesOct_le L.enc
  have h2:=bytesOct_le L.cred
  have h3:=bytesOct_le L.par
  rw [lfPut_ok h,lfOct]
  simp only [List.length_append,numOct_length,widthK1]
  split
  ·omega
  simp only [List.length_nil];omega
 rw [lfPut_no h];simp
/- PnBase:
  Nodes that are no leaves in memory, and what the document says of them.
-/
/-- Where the slices of a Pn lie. -/
structure PnV where
 enc:SlV
 hash:SlV
 unm:SlV
/-- What a Pn says. -/
structure Pn where
 enc:List Int
 hash:List Int
 unm:List Int
abbrev PnV.cs (l:PnV) (L:Pn):Array Value:=#[l.enc.v,l.hash.v,l.unm.v]
structure IsPn (w:World) (B:Nat) (l:PnV) (L:Pn):Prop where
 enc:Sl w B l.enc L.enc
 hash:Sl w B l.hash L.hash
 unm:SlN w B l.unm L.unm
section
variable {w w':World} {B B':Nat} {l:PnV} {L:Pn}
theorem IsPn.below (h:IsPn w B l L) (b:Below B w w'):IsPn w' B l L:=⟨h.enc.below b,h.hash.below b,h.unm.below b⟩
theorem IsPn.more (h:IsPn w B l L) (b:B≤B'):IsPn w B' l L:=⟨h.enc.more b,h.hash.more b,h.unm.more b⟩
theorem IsPn.set {c:Nat} {old new:Array Value} {t t':TypeId} (h:IsPn w B l L) (r:RowAt w c t old) (no:old.toList.all noNum=true) (st:Set1 w w' c t' new):IsPn w' B l L:=⟨h.enc.set r (noU8_of no) st,h.hash.set r (noU8_of no) st,h.unm.set r no st⟩
abbrev PnV.zero:PnV:=⟨nilS,nilS,nilS⟩
abbrev Pn.zero:Pn:=⟨[],[],[]⟩
theorem IsPn.zero (w:World) (B:Nat):IsPn w B PnV.zero Pn.zero:=⟨Sl.nil _ _,Sl.nil _ _,SlN.nil _ _⟩
def PnV.old (B:Nat) (l:PnV):Prop:=Old B l.enc∧Old B l.hash
def PnV.fresh (a:Nat) (l:PnV):Prop:=Fr a l.unm
theorem IsPn.setf {c a:Nat} {old new:Array Value} {t t':TypeId} (h:IsPn w B l L) (r:RowAt w c t old) (no:old.toList.all noU8=true) (f:l.fresh a) (hc:c<a) (st:Set1 w w' c t' new):IsPn w' B l L:=⟨h.enc.set r no st,h.hash.set r no st,h.unm.setf f hc st⟩
end

/-- What is wrong with a node. -/
def pnCheck (L:Pn):Int :=
 if (L.enc.length:Int)=0 then 5
 else if 200<(L.enc.length:Int)∨200<(L.hash.length:Int)∨64<(L.unm.length:Int) then 4
 else if ∃ x∈L.unm,x<0∨64≤x then 3
 else if ¬Rising L.unm then 8
 else 0
/-- The octets of a node. -/
def pnOct (L:Pn):List Int:=bytesOct L.enc++bytesOct L.hash++bytesOct (numsOct L.unm)
def pnPut (L:Pn):List Int:=if pnCheck L=0 then pnOct L else []
def pnFew (L:Pn):Prop:=IntKind.i64.wrap (IntKind.i64.wrap ((L.enc.length:Int)+(L.hash.length:Int))+(L.unm.length:Int))≤600
instance (L:Pn):Decidable (pnFew L):=by unfold pnFew;infer_instance
def PnSame (L M:Pn):Prop:=L.enc=M.enc∧L.hash=M.hash∧L.unm=M.unm
instance (L M:Pn):Decidable (PnSame L M):=by unfold PnSame;infer_instance
/-- The reading of a node: the error, the node, the rest. -/
def pnGet (xs:List Int):Int × Pn × List Int :=
 if ¬bytesE xs=0 then (bytesE xs,Pn.zero,[])
 else if ¬bytesE (bytesR xs)=0 then (bytesE (bytesR xs),Pn.zero,[])
 else if ¬numsE (bytesR (bytesR xs))=0 then (numsE (bytesR (bytesR xs)),Pn.zero,[])
 else if ¬pnCheck (⟨bytesP xs,bytesP (bytesR xs),numsL (bytesR (bytesR xs))⟩:Pn)=0 then (pnCheck (⟨bytesP xs,bytesP (bytesR xs),numsL (bytesR (bytesR xs))⟩:Pn),Pn.zero,[])
 else (0,(⟨bytesP xs,bytesP (bytesR xs),numsL (bytesR (bytesR xs))⟩:Pn),numsR (bytesR (bytesR xs)))
theorem pnCheck_ok {L:Pn} (h:pnCheck L=0):0<L.enc.length∧L.enc.length≤200∧L.hash.length≤200∧L.unm.length≤64:=by
 unfold pnCheck at h
 repeat' split at h
 all_goals omega
theorem pnCheck_nums {L:Pn} (h:pnCheck L=0):(∀ x∈L.unm,0≤x∧x<64)∧Rising L.unm:=by
 unfold pnCheck at h
 split at h
 ·omega
 split at h
 ·omega
 split at h
 ·omega
 rename_i h3
 split at h
 ·omega
 rename_i h4
 exact ⟨fun x hx=>by
  have:¬(x<0∨64≤x):=fun q=>h3 ⟨x,hx,q⟩
  omega,Decidable.not_not.1 h4⟩
theorem pnPut_le (L:Pn):(pnPut L).length≤668:=by
 unfold pnPut
 split
 ·rename_i h
  have ok:=pnCheck_ok h
  have h1:=bytesOct_le L.enc
  have h2:=bytesOct_le L.hash
  have h3:=bytesOct_le (numsOct L.unm)
  rw [numsOct_length] at h3
  simp only [pnOct,List.length_append]
  omega
 simp
/- PnMath:
  What is put of nodes is got; what is got was put; which numbers may be named: by pure means.
-/
theorem pnSame_iff {L M:Pn}:PnSame L M↔L=M:=by
 constructor
 ·intro h
  obtain ⟨a,b,c⟩:=L
  obtain ⟨a',b',c'⟩:=M
  obtain ⟨h1,h2,h3⟩:=h
  simp only at h1 h2 h3
  subst h1 h2 h3
  rfl
 rintro rfl
 exact ⟨rfl,rfl,rfl⟩
-- which numbers may be named
-- joined, and cut
/- NdBase:
  Nodes in memory, and what the document says of them.
-/
/-- A function in a cell. -/
abbrev fnv:Option FuncId→Value
 | some f=>.func (.func f) #[] #[]
 | none=>.nilFunc
/-- Where the slices of a Nd lie. -/
structure NdV where
 leaf:LfV
 inner:PnV
/-- What a Nd says. -/
structure Nd where
 kind:Int
 leaf:Lf
 inner:Pn
abbrev NdV.cs (l:NdV) (L:Nd):Array Value:=#[nv L.kind,l.leaf.enc.v,l.leaf.cred.v,nv L.leaf.src,l.leaf.par.v,l.inner.enc.v,l.inner.hash.v,l.inner.unm.v]
structure IsNd (w:World) (B:Nat) (l:NdV) (L:Nd):Prop where
 leaf:IsLf w B l.leaf L.leaf
 inner:IsPn w B l.inner L.inner
section
variable {w w':World} {B B':Nat} {l:NdV} {L:Nd}
theorem IsNd.below (h:IsNd w B l L) (b:Below B w w'):IsNd w' B l L:=⟨h.leaf.below b,h.inner.below b⟩
theorem IsNd.more (h:IsNd w B l L) (b:B≤B'):IsNd w B' l L:=⟨h.leaf.more b,h.inner.more b⟩
theorem IsNd.set {c:Nat} {old new:Array Value} {t t':TypeId} (h:IsNd w B l L) (r:RowAt w c t old) (no:old.toList.all noNum=true) (st:Set1 w w' c t' new):IsNd w' B l L:=⟨h.leaf.set r (noU8_of no) st,h.inner.set r no st⟩
abbrev NdV.zero:NdV:=⟨⟨nilS,nilS,nilS⟩,⟨nilS,nilS,nilS⟩⟩
abbrev Nd.zero:Nd:=⟨0,⟨[],[],0,[]⟩,⟨[],[],[]⟩⟩
theorem IsNd.zero (w:World) (B:Nat):IsNd w B NdV.zero Nd.zero:=⟨IsLf.zero _ _,IsPn.zero _ _⟩
def NdV.old (B:Nat) (l:NdV):Prop:=l.leaf.old B∧l.inner.old B
theorem NdV.old_zero (B:Nat):NdV.zero.old B:=⟨⟨Old.nil _,Old.nil _,Old.nil _⟩,Old.nil _,Old.nil _⟩
def NdV.fresh (a:Nat) (l:NdV):Prop:=l.inner.fresh a
theorem IsNd.setf {c a:Nat} {old new:Array Value} {t t':TypeId} (h:IsNd w B l L) (r:RowAt w c t old) (no:old.toList.all noU8=true) (f:l.fresh a) (hc:c<a) (st:Set1 w w' c t' new):IsNd w' B l L:=⟨h.leaf.set r no st,h.inner.setf r no f hc st⟩
end
/-- Where the slices of a Cs lie. -/
structure CsV where

/-- What a Cs says. -/
structure Cs where
 put:Option FuncId
 get:Option FuncId
abbrev CsV.cs (l:CsV) (L:Cs):Array Value:=#[fnv L.put,fnv L.get]
structure IsCs (w:World) (B:Nat) (l:CsV) (L:Cs):Prop where

section
variable {w w':World} {B B':Nat} {l:CsV} {L:Cs}
theorem IsCs.below (h:IsCs w B l L) (b:Below B w w'):IsCs w' B l L:=⟨⟩
theorem IsCs.more (h:IsCs w B l L) (b:B≤B'):IsCs w B' l L:=⟨⟩
theorem IsCs.set {c:Nat} {old new:Array Value} {t t':TypeId} (h:IsCs w B l L) (r:RowAt w c t old) (no:old.toList.all noU8=true) (st:Set1 w w' c t' new):IsCs w' B l L:=⟨⟩
abbrev CsV.zero:CsV:=⟨⟩
abbrev Cs.zero:Cs:=⟨none,none⟩
theorem IsCs.zero (w:World) (B:Nat):IsCs w B CsV.zero Cs.zero:=⟨⟩
end

/-- What is wrong with a node. -/
def ndCheck (L:Nd):Int :=
 if L.kind<0∨2<L.kind then 7
 else if (¬L.kind=1∧¬LfSame L.leaf Lf.zero)∨(¬L.kind=2∧¬PnSame L.inner Pn.zero) then 2
 else if L.kind=1 then lfCheck L.leaf
 else if L.kind=2 then pnCheck L.inner
 else 0
/-- As what it counts. -/
def ndAs (L:Nd):Nd:=if ndCheck L=0 then L else Nd.zero
def NdSame (L M:Nd):Prop:=L.kind=M.kind∧LfSame L.leaf M.leaf∧PnSame L.inner M.inner
instance (L M:Nd):Decidable (NdSame L M):=by unfold NdSame;infer_instance
def ndFew (L:Nd):Prop:=lfFew L.leaf∧pnFew L.inner
instance (L:Nd):Decidable (ndFew L):=by unfold ndFew;infer_instance
/-- The octets of a node. -/
def ndPut (L:Nd):List Int :=
 if (ndAs L).kind=1 then flagOct true++numOct 1 (widthK 1)++lfPut L.leaf
 else if (ndAs L).kind=2 then flagOct true++numOct 2 (widthK 1)++pnPut L.inner
 else flagOct false
/-- The reading of a node: the error, the node, the rest. -/
def ndGet (xs:List Int):Int × Nd × List Int :=
 if ¬flagE xs=0 then (flagE xs,Nd.zero,[])
 else if ¬flagB xs=true then (0,Nd.zero,flagR xs)
 else if ¬numE (flagR xs) 1=0 then (numE (flagR xs) 1,Nd.zero,[])
 else if numM (flagR xs) 1=1 then
  if ¬(lfGet (numR (flagR xs) 1)).1=0 then ((lfGet (numR (flagR xs) 1)).1,Nd.zero,[])
  else (0,⟨1,(lfGet (numR (flagR xs) 1)).2.1,Pn.zero⟩,(lfGet (numR (flagR xs) 1)).2.2)
 else if numM (flagR xs) 1=2 then
  if ¬(pnGet (numR (flagR xs) 1)).1=0 then ((pnGet (numR (flagR xs) 1)).1,Nd.zero,[])
  else (0,⟨2,Lf.zero,(pnGet (numR (flagR xs) 1)).2.1⟩,(pnGet (numR (flagR xs) 1)).2.2)
 else (7,Nd.zero,[])
/-- Whether it is of a kind, and, if it is, what it says. -/
def ndOnly (L:Nd) (k:Int):List Int :=
 if (ndAs L).kind=k∧k=1 then flagOct true++lfPut L.leaf
 else if (ndAs L).kind=k∧k=2 then flagOct true++pnPut L.inner
 else flagOct false
def ofLeafO (i:Int) (L:Nd):List Int:=numOct 1 (widthK 1)++numOct i (widthK 4)++ndOnly L 1
def ofInnerO (L:Nd) (xs ys:List Int):List Int:=numOct 2 (widthK 1)++ndOnly L 2++bytesOct xs++bytesOct ys
theorem ndAs_ok {L:Nd} (h:ndCheck L=0):ndAs L=L:=if_pos h
theorem ndAs_no {L:Nd} (h:¬ndCheck L=0):ndAs L=Nd.zero:=if_neg h
theorem ndAs_kind {L:Nd} (h:¬(ndAs L).kind=0):ndAs L=L∧ndCheck L=0:=by
 by_cases e:ndCheck L=0
 ·exact ⟨ndAs_ok e,e⟩
 exact absurd (by rw [ndAs_no e]) h
theorem ndCheck_kind {L:Nd} (h:ndCheck L=0):0≤L.kind∧L.kind≤2:=by
 unfold ndCheck at h
 split at h<;>omega
theorem ndAs_range (L:Nd):0≤(ndAs L).kind∧(ndAs L).kind≤2:=by
 by_cases h:ndCheck L=0
 ·rw [ndAs_ok h];exact ndCheck_kind h
 rw [ndAs_no h];exact ⟨by decide,by decide⟩
theorem ndPut_le (L:Nd):(ndPut L).length≤2000:=by
 unfold ndPut
 have h1:=lfPut_le L.leaf
 have h2:=pnPut_le L.inner
 have:=widthK1
 split
 ·simp only [List.length_append,flagOct_length,numOct_length];omega
 split
 ·simp only [List.length_append,flagOct_length,numOct_length];omega
 simp [flagOct_length]
/- NdMath:
  What is put of nodes is got; what is got was put; what is summed up tells all: by pure means.
-/
theorem ndSame_iff {L M:Nd}:NdSame L M↔L=M:=by
 constructor
 ·rintro ⟨h1,h2,h3⟩
  obtain ⟨a,b,c⟩:=L
  obtain ⟨a',b',c'⟩:=M
  simp only at h1 h2 h3
  rw [h1,lfSame_iff.1 h2,pnSame_iff.1 h3]
 rintro rfl
 exact ⟨rfl,lfSame_iff.2 rfl,pnSame_iff.2 rfl⟩
theorem nd_same (L:Nd):NdSame L L:=ndSame_iff.2 rfl
theorem nd_cases {L:Nd} (h:ndCheck L=0):L=Nd.zero∨(L.kind=1∧L.inner=Pn.zero∧lfCheck L.leaf=0)∨(L.kind=2∧L.leaf=Lf.zero∧pnCheck L.inner=0):=by
 obtain ⟨k,l,n⟩:=L
 have h:(if k<0∨2<k then 7 else if (¬k=1∧¬LfSame l Lf.zero)∨(¬k=2∧¬PnSame n Pn.zero) then 2 else if k=1 then lfCheck l else if k=2 then pnCheck n else 0)=0:=h
 split at h
 ·omega
 rename_i hk
 split at h
 ·omega
 rename_i hf
 split at h
 ·rename_i h1
  have e2:PnSame n Pn.zero:=Decidable.not_not.1 fun q=>hf (.inr ⟨by omega,q⟩)
  exact .inr (.inl ⟨h1,pnSame_iff.1 e2,h⟩)
 rename_i h1
 have e1:LfSame l Lf.zero:=Decidable.not_not.1 fun q=>hf (.inl ⟨h1,q⟩)
 split at h
 ·rename_i h2
  exact .inr (.inr ⟨h2,lfSame_iff.1 e1,h⟩)
 rename_i h2
 have e2:PnSame n Pn.zero:=Decidable.not_not.1 fun q=>hf (.inr ⟨h2,q⟩)
 have e3:k=0:=by omega
 rw [lfSame_iff.1 e1,pnSame_iff.1 e2,e3]
 exact .inl rfl
theorem nd_zero:ndCheck Nd.zero=0:=by decide
-- what is summed up
-- one behind the other
/- NdRow:
  Slices of nodes, as they read.
-/
/-- A slice of such, as it reads. -/
def RwNd (w:World) (B:Nat) (s:SlV) (Ls:List Nd):Prop:=s.m≤s.c∧s.c≤maxLen∧Ls.length=s.m ∧
 (0<s.m→∃ b o,s.A=some ⟨b,o,none⟩∧b<B∧∀ i L,Ls[i]?=some L→∃ l:NdV,IsNd w B l L∧∀ j u,(l.cs L)[j]?=some u→w.cell? ⟨b,o+i*8+j,none⟩=some u)
theorem RwNd.below {w w':World} {B:Nat} {s:SlV} {Ls:List Nd} (h:RwNd w B s Ls) (g:Below B w w'):RwNd w' B s Ls:=by
 refine ⟨h.1,h.2.1,h.2.2.1,fun hm=>?_⟩
 obtain ⟨b,o,e,hB,hc⟩:=h.2.2.2 hm
 refine ⟨b,o,e,hB,fun i L hL=>?_⟩
 obtain ⟨l,hl,hj⟩:=hc i L hL
 exact ⟨l,hl.below g,fun j u hu=>(g.cell (p:=⟨b,o+i*8+j,none⟩) hB).trans (hj j u hu)⟩
theorem RwNd.more {w:World} {B B':Nat} {s:SlV} {Ls:List Nd} (h:RwNd w B s Ls) (g:B≤B'):RwNd w B' s Ls:=by
 refine ⟨h.1,h.2.1,h.2.2.1,fun hm=>?_⟩
 obtain ⟨b,o,e,hB,hc⟩:=h.2.2.2 hm
 refine ⟨b,o,e,by omega,fun i L hL=>?_⟩
 obtain ⟨l,hl,hj⟩:=hc i L hL
 exact ⟨l,hl.more g,hj⟩
theorem RwNd.len {w:World} {B:Nat} {s:SlV} {Ls:List Nd} (h:RwNd w B s Ls):Ls.length=s.m:=h.2.2.1
/-- The element at a place. -/
theorem RwNd.at {w:World} {B:Nat} {s:SlV} {Ls:List Nd} (h:RwNd w B s Ls) (i:Nat) (hi:i<s.m):∃ (b o:Nat) (l:NdV) (L:Nd),s.A=some ⟨b,o,none⟩∧b<B∧Ls[i]?=some L∧IsNd w B l L∧∀ j u,(l.cs L)[j]?=some u→w.cell? ⟨b,o+i*8+j,none⟩=some u:=by
 obtain ⟨b,o,e,hB,hc⟩:=h.2.2.2 (by omega)
 have hl:i<Ls.length:=by rw [h.len];exact hi
 obtain ⟨l,h1,h2⟩:=hc i Ls[i] (List.getElem?_eq_getElem hl)
 exact ⟨b,o,l,Ls[i],e,hB,List.getElem?_eq_getElem hl,h1,h2⟩
end Go.Proofs.YtognnnjdoemgfaaGreatDoor
