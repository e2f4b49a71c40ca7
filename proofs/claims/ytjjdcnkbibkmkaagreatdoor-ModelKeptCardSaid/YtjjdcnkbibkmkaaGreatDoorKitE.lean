/-
  KitE: EdMath, EdWk, EdProg, EdDo.
-/
import Derived.Test.YtjjdcnkbibkmkaaGreatDoorKitC
namespace Go.Proofs.YtjjdcnkbibkmkaaGreatDoor
open Go.Proofs.Tryz
open Go.ChangeShapes Go.WideShapes Go.ChangeAt Go.RowKit
set_option linter.unusedVariables false
variable {B b:Nat} {Ks:List (List Int)} {Ls:List Nd} {W:World} {k:Int} {r:SlV}

/- EdMath:
  What may be done to a tree: pure.
-/
abbrev leafN (l:Lf):Nd:=⟨1,l,Pn.zero⟩
def srcE (l:Lf) (k:Int):Int:=if ¬lfCheck l=0 then lfCheck l else if l.src=k then 0 else 7
def hadE (a:List Nd) (i:Int):Int:=if ¬(0<=i/\i<leavesA a) then 3 else if (atN a (2*i).toNat).kind=0 then 9 else 0
def joinN (i:Int) (n:Nd):Nd:=if n.kind=2 then ⟨n.kind,n.leaf,⟨n.inner.enc,n.inner.hash,joinK n.inner.unm i⟩⟩ else n
def joinW (i:Int):List Int->List Nd->List Nd
 | [],a=>a
 | d::ds,a=>joinW i ds (a.set d.toNat (joinN i (atN a d.toNat)))
def laidL (a:List Nd) (i:Int) (l:Lf):List Nd:=a.set (2*i).toNat (leafN l)
def roomE (a:List Nd):Int:=if freeA a=-1 then growE a else 0
def roomL (a:List Nd):List Nd:=if freeA a=-1 then growL a else a
def addE (a:List Nd) (l:Lf):Int:=if srcE l 1=0 then roomE a else srcE l 1
def addI (a:List Nd) (l:Lf):Int:=if addE a l=0 then freeA (roomL a) else -1
def addL (a:List Nd) (l:Lf):List Nd:=if addE a l=0 then laidL (joinW (freeA (roomL a)) (dirI (2*freeA (roomL a)) (roomL a).length) (roomL a)) (freeA (roomL a)) l else []
def remL (a:List Nd) (i:Int):List Nd:=if hadE a i=0 then trimL (clearL a i) else []
def chaE (a:List Nd) (i:Int) (l:Lf):Int:=if hadE a i=0 then srcE l 2 else hadE a i
def chaL (a:List Nd) (i:Int) (l:Lf):List Nd:=if chaE a i l=0 then laidL (clearL a i) i l else []
def comE (a:List Nd) (i:Int) (l:Lf) (ks:List (List Int)):Int :=
 if ¬hadE a i=0 then hadE a i else if ¬srcE l 3=0 then srcE l 3 else if ¬planE a i ks=0 then planE a i ks else if l.par=planH a i ks then 0 else 12
def comL (a:List Nd) (i:Int) (l:Lf) (ks:List (List Int)):List Nd:=if comE a i l ks=0 then laidL (planP a i ks) i l else []

theorem leavesA_eq (a:List Nd):leavesA a=(a.length+1) / 2:=rfl
theorem srcE_ok {l:Lf} {k:Int} (h:srcE l k=0):lfCheck l=0/\l.src=k:=by
 unfold srcE at h;split at h
 ·rename_i q
  exact absurd h q
 rename_i q
 split at h
 ·rename_i z
  exact ⟨Classical.not_not.1 q,z⟩
 exact absurd h (by decide)
theorem srcE_bad {l:Lf} {k:Int} (h:¬lfCheck l=0):srcE l k=lfCheck l:=if_pos h
theorem srcE_src {l:Lf} {k:Int} (h:lfCheck l=0) (q:¬l.src=k):srcE l k=7:=by
 unfold srcE;rw [if_neg (fun z=>z h),if_neg q]
theorem srcE_is {l:Lf} {k:Int} (h:lfCheck l=0) (q:l.src=k):srcE l k=0:=by
 unfold srcE;rw [if_neg (fun z=>z h),if_pos q]
theorem hadE_no {a:List Nd} {i:Int} (h:¬(0<=i/\i<leavesA a)):hadE a i=3:=if_pos h
theorem hadE_blank {a:List Nd} {i:Int} (h:0<=i/\i<leavesA a) (q:(atN a (2*i).toNat).kind=0):hadE a i=9:=by
 unfold hadE;rw [if_neg (fun z=>z h),if_pos q]
theorem hadE_is {a:List Nd} {i:Int} (h:0<=i/\i<leavesA a) (q:¬(atN a (2*i).toNat).kind=0):hadE a i=0:=by
 unfold hadE;rw [if_neg (fun z=>z h),if_neg q]
theorem hadE_ok {a:List Nd} {i:Int} (h:hadE a i=0):(0<=i/\i<leavesA a)/\¬(atN a (2*i).toNat).kind=0:=by
 unfold hadE at h;split at h
 ·exact absurd h (by decide)
 rename_i q
 split at h
 ·exact absurd h (by decide)
 rename_i z
 exact ⟨Classical.not_not.1 q,z⟩
-- joined
theorem joinN_kind (i:Int) (n:Nd):(joinN i n).kind=n.kind:=by
 unfold joinN;split<;>rfl
theorem joinW_len (i:Int):∀ (ds:List Int) (a:List Nd),(joinW i ds a).length=a.length
 | [],_=>rfl
 | d::ds,a=>by rw [joinW,joinW_len i ds,List.length_set]
theorem joinW_snoc (i d:Int):∀ (ds:List Int) (a:List Nd),joinW i (ds++[d]) a=(joinW i ds a).set d.toNat (joinN i (atN (joinW i ds a) d.toNat))
 | [],_=>rfl
 | c::ds,a=>by rw [List.cons_append,joinW,joinW_snoc i d ds,joinW]
theorem joinW_take {i:Int} {ds:List Int} {t:Nat} {a:List Nd} (h:t<ds.length):(joinW i (ds.take t) a).set (ds.getD t 0).toNat (joinN i (atN (joinW i (ds.take t) a) (ds.getD t 0).toNat))=joinW i (ds.take (t+1)) a:=by
 rw [take_succ_getD ds t h,joinW_snoc]
theorem rise_len {l:List Int} (h:Rising l) (b:∀ x∈l,0<=x/\x<64):l.length<=64:=by
 have key:∀ (k:Nat) (l:List Int),Rising l->(∀ x∈l,(64:Int)-k<=x/\x<64)->l.length<=k:=fun k=>by
  induction k with
  | zero =>
   intro l _ b;cases l with
   | nil=>exact Nat.le_refl _
   | cons x r =>
    have:=b x (by simp);omega
  | succ k ih =>
   intro l h b;cases l with
   | nil=>exact Nat.zero_le _
   | cons x r =>
    have h1:=List.pairwise_cons.1 h;have hx:=b x (by simp);have:=ih r h1.2 fun y hy=>by
     have:=h1.1 y hy;have:=b y (by simp [hy]);omega
    simp only [List.length_cons];omega
 exact key 64 l h fun x hx=>by have:=b x hx;omega
theorem nd_ok_inner {n:Nd} (h:ndCheck n=0) (k:n.kind=2):pnCheck n.inner=0/\n.leaf=Lf.zero:=by
 rcases nd_cases h with e | e | e
 ·rw [e] at k;exact absurd k (by decide)
 ·omega
 exact ⟨e.2.2,e.2.1⟩
theorem joinN_ok {i:Int} {n:Nd} (h0:0<=i) (h1:i<64) (h:ndCheck n=0):ndCheck (joinN i n)=0:=by
 by_cases k:n.kind=2
 ·obtain ⟨hp,hl⟩:=nd_ok_inner h k;obtain ⟨a,b,c,d⟩:=pnCheck_ok hp;obtain ⟨e,f⟩:=pnCheck_nums hp;have hb:∀ x∈joinK n.inner.unm i,0<=x/\x<64:=fun x hx=>by
   rcases joinK_mem.1 hx with q | q
   ·exact e x q
   omega
  have e2:joinN i n=⟨n.kind,n.leaf,⟨n.inner.enc,n.inner.hash,joinK n.inner.unm i⟩⟩:=if_pos k;rw [e2];exact nd_ok2 k hl (pnCheck_mk a b c (rise_len (joinK_rising _ _) hb) hb (joinK_rising _ _))
 rw [show joinN i n=n from if_neg k];exact h
theorem joinW_is {i:Int} (h0:0<=i) (h1:i<64):∀ (ds:List Int) {a:List Nd},trIs a->trIs (joinW i ds a)
 | [],_,h=>h
 | d::ds,a,h=>joinW_is h0 h1 ds (trIs_set h ⟨joinN_ok h0 h1 (trIs_ok h _).1,by rw [joinN_kind];exact (trIs_ok h _).2⟩)
-- laid
theorem leaf_ok {l:Lf} (h:lfCheck l=0):ndCheck (leafN l)=0:=nd_ok1 rfl rfl h
theorem leaf_at {l:Lf} {i:Int} (h:lfCheck l=0) (h0:0<=i):okAt (2*i).toNat (leafN l):=⟨leaf_ok h,.inr (show (1:Int)≠2 by decide),.inl (by omega)⟩
theorem laid_is {a:List Nd} {i:Int} {l:Lf} (ha:trIs a) (h:lfCheck l=0) (h0:0<=i):trIs (laidL a i l):=trIs_set ha (leaf_at h h0)
theorem laid_set {a:List Nd} {i:Int} {l:Lf} (ha:trIs a) (hN:isN (2*i) (a.length:Int)) (h:lfCheck l=0):setE a (2*i) (leafN l)=0/\setL a (2*i) (leafN l)=laidL a i l:=by
 have h0:=hN.le;have e:setE a (2*i) (leafN l)=0:=setE_ok (by rw [trAs_ok ha];exact hN) (leaf_ok h) (leaf_at h (by omega)).2;exact ⟨e,by rw [setL_ok e,trAs_ok ha];rfl⟩
-- cleared
theorem clear_ok {a:List Nd} {i:Int} (ha:trIs a) (h:0<=i/\i<leavesA a):clearE a i=0/\clearL a i=clr (dirI (2*i) (a.length:Int)) (a.set (2*i).toNat Nd.zero):=by
 have e:clearE a i=0:=by
  unfold clearE;rw [trAs_ok ha];exact if_neg (by omega)
 exact ⟨e,by rw [clearL_ok e,trAs_ok ha]⟩
theorem clear_is {a:List Nd} {i:Int} (ha:trIs a) (h:0<=i/\i<leavesA a):trIs (clearL a i)/\(clearL a i).length=a.length:=by
 rw [(clear_ok ha h).2];exact ⟨clr_is _ (trIs_set ha (ok_zero _)),by rw [clr_len,List.length_set]⟩
theorem dir_all {x w:Int} (h:isN x w):∀ d∈dirI x w,0<=d/\d<w/\d % 2=1/\isN d w:=fin2 (p:=fun x w=>∀ d∈dirI x w,0<=d/\d<w/\d % 2=1/\isN d w) (by kernel_rfl) h
-- room
theorem room_yes {a:List Nd} (h:¬freeA a=-1):roomE a=0/\roomL a=a:=⟨if_neg h,if_neg h⟩
theorem room_no {a:List Nd} (h:freeA a=-1):roomE a=growE a/\roomL a=growL a:=⟨if_pos h,if_pos h⟩
theorem room_is {a:List Nd} (ha:trIs a):trIs (roomL a):=by
 unfold roomL;split
 ·exact trIs_growL a
 exact ha
theorem free_grown {a:List Nd} (ha:trIs a) (h:freeA a=-1) (g:growE a=0):freeA (growL a)=(leavesA a:Int):=by
 obtain ⟨h1,h2,h3⟩:=grown ha g;have e1:=leavesA_eq a;have e2:=leavesA_eq (growL a);have hl:=trIs_len ha;refine freeA_one (by omega) (by rw [h3,atN_none (by omega)]) fun q hq=>?_;rw [h3];rcases freeA_is a with ⟨_,z⟩ | ⟨k,z,_⟩
 ·exact z q hq
 omega
theorem room_ok {a:List Nd} (ha:trIs a) (h:roomE a=0):trIs (roomL a)/\0<=freeA (roomL a)/\freeA (roomL a)<leavesA (roomL a)/\freeA (roomL a)<64/\isN (2*freeA (roomL a)) ((roomL a).length:Int)/\atN (roomL a) (2*freeA (roomL a)).toNat=Nd.zero /\
  (∀ j,j<a.length->atN (roomL a) j=atN a j)/\(∀ j,a.length<=j->atN (roomL a) j=Nd.zero)/\a.length<=(roomL a).length:=by
 have hr:=room_is ha;have key:0<=freeA (roomL a)/\(∀ j,atN (roomL a) j=atN a j)/\a.length<=(roomL a).length:=by
  by_cases q:freeA a=-1
  ·rw [(room_no q).1] at h;obtain ⟨h1,h2,h3⟩:=grown ha h;rw [(room_no q).2,free_grown ha q h];exact ⟨by omega,h3,by omega⟩
  rw [(room_yes q).2];have:=(freeA_range a).1;exact ⟨by omega,fun j=>rfl,Nat.le_refl _⟩
 obtain ⟨k0,k1,k2⟩:=key;have e2:=leavesA_eq (roomL a);have hl:=trIs_len hr;have h0:=trIs_le hr;rcases freeA_is (roomL a) with ⟨z,_⟩ | ⟨j,z,z1,z2,_⟩
 ·omega
 refine ⟨hr,k0,by omega,by omega,isN_of hr (by omega) (by omega),?_,fun j _=>k1 j,fun j hj=>by rw [k1,atN_none hj],k2⟩;rcases nd_cases (trIs_ok hr (2*freeA (roomL a)).toNat).1 with e | e | e
 ·exact e
 ·rw [show (2*freeA (roomL a)).toNat=2*j by omega] at e;omega
 rw [show (2*freeA (roomL a)).toNat=2*j by omega] at e;omega
-- what is done
theorem addE_ok {a:List Nd} {l:Lf} (h:addE a l=0):lfCheck l=0/\l.src=1/\roomE a=0:=by
 unfold addE at h;split at h
 ·rename_i q
  exact ⟨(srcE_ok q).1,(srcE_ok q).2,h⟩
 rename_i q
 exact absurd h q
theorem add_ok {a:List Nd} {l:Lf} (h:addE a l=0):addI a l=freeA (roomL a)/\addL a l=laidL (joinW (freeA (roomL a)) (dirI (2*freeA (roomL a)) (roomL a).length) (roomL a)) (freeA (roomL a)) l:=⟨if_pos h,if_pos h⟩
theorem add_no {a:List Nd} {l:Lf} (h:¬addE a l=0):addI a l=-1/\addL a l=[]:=⟨if_neg h,if_neg h⟩
theorem addL_is {a:List Nd} (ha:trIs a) (l:Lf):trIs (addL a l):=by
 by_cases h:addE a l=0
 ·rw [(add_ok h).2];obtain ⟨h1,_,h3⟩:=addE_ok h;obtain ⟨r,r1,r2,r3,_⟩:=room_ok ha h3;exact laid_is (joinW_is r1 r3 _ r) h1 r1
 rw [(add_no h).2];exact trIs_nil
theorem remL_is {a:List Nd} (i:Int):trIs (remL a i):=by
 unfold remL;split
 ·exact trIs_trimL _
 exact trIs_nil
theorem chaE_ok {a:List Nd} {i:Int} {l:Lf} (h:chaE a i l=0):hadE a i=0/\srcE l 2=0:=by
 unfold chaE at h;split at h
 ·rename_i q
  exact ⟨q,h⟩
 rename_i q
 exact absurd h q
theorem cha_ok {a:List Nd} {i:Int} {l:Lf} (h:chaE a i l=0):chaL a i l=laidL (clearL a i) i l:=if_pos h
theorem cha_no {a:List Nd} {i:Int} {l:Lf} (h:¬chaE a i l=0):chaL a i l=[]:=if_neg h
theorem chaL_is {a:List Nd} (ha:trIs a) (i:Int) (l:Lf):trIs (chaL a i l):=by
 by_cases h:chaE a i l=0
 ·rw [cha_ok h];obtain ⟨h1,h2⟩:=chaE_ok h;obtain ⟨h3,_⟩:=hadE_ok h1;exact laid_is (clear_is ha h3).1 (srcE_ok h2).1 h3.1
 rw [cha_no h];exact trIs_nil
theorem comE_ok {a:List Nd} {i:Int} {l:Lf} {ks:List (List Int)} (h:comE a i l ks=0):hadE a i=0/\srcE l 3=0/\planE a i ks=0/\l.par=planH a i ks:=by
 unfold comE at h;split at h
 ·rename_i q
  exact absurd h q
 rename_i q1
 split at h
 ·rename_i q
  exact absurd h q
 rename_i q2
 split at h
 ·rename_i q
  exact absurd h q
 rename_i q3
 split at h
 ·rename_i q4
  exact ⟨Classical.not_not.1 q1,Classical.not_not.1 q2,Classical.not_not.1 q3,q4⟩
 exact absurd h (by decide)
theorem comE_had {a:List Nd} {i:Int} {l:Lf} {ks:List (List Int)} (h:¬hadE a i=0):comE a i l ks=hadE a i:=if_pos h
theorem comE_src {a:List Nd} {i:Int} {l:Lf} {ks:List (List Int)} (h:hadE a i=0) (q:¬srcE l 3=0):comE a i l ks=srcE l 3:=by
 unfold comE;rw [if_neg (fun z=>z h),if_pos q]
theorem com_ok {a:List Nd} {i:Int} {l:Lf} {ks:List (List Int)} (h:comE a i l ks=0):comL a i l ks=laidL (planP a i ks) i l:=if_pos h
theorem comi_no {a:List Nd} {i:Int} {l:Lf} {ks:List (List Int)} (h:¬comE a i l ks=0):comL a i l ks=[]:=if_neg h
theorem comL_is {a:List Nd} (ha:trIs a) (i:Int) (l:Lf) (ks:List (List Int)):trIs (comL a i l ks):=by
 by_cases h:comE a i l ks=0
 ·rw [com_ok h];obtain ⟨h1,h2,_⟩:=comE_ok h;exact laid_is (planP_is ha i ks) (srcE_ok h2).1 (hadE_ok h1).1.1
 rw [comi_no h];exact trIs_nil
def comX (a:List Nd) (i:Int) (l:Lf) (ks:List (List Int)):Int:=if ¬planE a i ks=0 then planE a i ks else if l.par=planH a i ks then 0 else 12
def comY (a:List Nd) (i:Int) (l:Lf) (ks:List (List Int)):List Nd:=if comX a i l ks=0 then laidL (planP a i ks) i l else []
theorem comX_plan {a:List Nd} {i:Int} {l:Lf} {ks:List (List Int)} (p:¬planE a i ks=0):comX a i l ks=planE a i ks/\comY a i l ks=[]:=by
 have e:comX a i l ks=planE a i ks:=if_pos p;exact ⟨e,if_neg (by rw [e];exact p)⟩
theorem comX_hash {a:List Nd} {i:Int} {l:Lf} {ks:List (List Int)} (p:planE a i ks=0) (q:¬l.par=planH a i ks):comX a i l ks=12/\comY a i l ks=[]:=by
 have e:comX a i l ks=12:=by
  unfold comX;rw [if_neg (fun z=>z p),if_neg q]
 exact ⟨e,if_neg (by rw [e];decide)⟩
theorem comX_ok {a:List Nd} {i:Int} {l:Lf} {ks:List (List Int)} (p:planE a i ks=0) (q:l.par=planH a i ks):comX a i l ks=0/\comY a i l ks=laidL (planP a i ks) i l:=by
 have e:comX a i l ks=0:=by
  unfold comX;rw [if_neg (fun z=>z p),if_pos q]
 exact ⟨e,if_pos e⟩
theorem comE_X {a:List Nd} {i:Int} {l:Lf} {ks:List (List Int)} (h:hadE a i=0) (q:srcE l 3=0):comE a i l ks=comX a i l ks/\comL a i l ks=comY a i l ks:=by
 have e:comE a i l ks=comX a i l ks:=by
  unfold comE comX;rw [if_neg (fun z=>z h),if_neg (fun z=>z q)]
 exact ⟨e,by unfold comL comY;rw [e]⟩
theorem leaves_tr {a:List Nd} {i:Int} (h0:0<=i) (h1:i<leavesA (trAs a)):trIs a:=by
 refine Classical.byContradiction fun q=>?_;rw [trAs_no q] at h1;exact absurd h1 (by show ¬i<((0:Nat):Int);omega)
theorem free_as {a:List Nd} (h:¬freeA (trAs a)=-1):trIs a:=by
 refine Classical.byContradiction fun q=>h ?_;rw [trAs_no q];exact freeA_no fun j hj=>absurd hj (by show ¬j<0;omega)
theorem grow_as (a:List Nd):growL (trAs a)=growL a/\growE (trAs a)=growE a:=by
 unfold growL growE;rw [trAs_as];exact ⟨rfl,rfl⟩
theorem set_atN {a:List Nd} {i:Nat}:a.set i (atN a i)=a:=by
 by_cases h:i<a.length
 ·refine list_atN (by rw [List.length_set]) fun j hj=>?_;rw [atN_set h];split
  ·rename_i e
   rw [e]
  rfl
 rw [List.set_eq_of_length_le (by omega)]
theorem join_yes {i:Int} {ds:List Int} {t:Nat} {a:List Nd} (h:t<ds.length) (k:(atN (joinW i (ds.take t) a) (ds.getD t 0).toNat).kind=2) :
  (joinW i (ds.take t) a).set (ds.getD t 0).toNat ⟨(atN (joinW i (ds.take t) a) (ds.getD t 0).toNat).kind,(atN (joinW i (ds.take t) a) (ds.getD t 0).toNat).leaf,⟨(atN (joinW i (ds.take t) a) (ds.getD t 0).toNat).inner.enc,(atN (joinW i (ds.take t) a) (ds.getD t 0).toNat).inner.hash,joinK (atN (joinW i (ds.take t) a) (ds.getD t 0).toNat).inner.unm i⟩⟩=joinW i (ds.take (t+1)) a:=by
 rw [<-joinW_take h,joinN,if_pos k]
theorem join_no {i:Int} {ds:List Int} {t:Nat} {a:List Nd} (h:t<ds.length) (k:¬(atN (joinW i (ds.take t) a) (ds.getD t 0).toNat).kind=2):joinW i (ds.take t) a=joinW i (ds.take (t+1)) a:=by
 rw [<-joinW_take h,joinN,if_neg k,set_atN]
/- EdWk:
  Spots, and functions that keep boxes.
-/
structure SqV where
 tree:SlV
 says:LfV
structure Sq where
 tree:List Nd
 i:Int
 says:Lf
abbrev SqV.cs (l:SqV) (L:Sq):Array Value:=#[l.tree.v,nv L.i,l.says.enc.v,l.says.cred.v,nv L.says.src,l.says.par.v]
structure IsSq [Lo] (w:World) (B:Nat) (l:SqV) (L:Sq):Prop where
 tree:RwNd w B l.tree L.tree
 says:IsLf w B l.says L.says
section
variable {w w':World} {B B':Nat} {l:SqV} {L:Sq}
theorem IsSq.below [Lo] (h:IsSq w B l L) (b:Below B w w'):IsSq w' B l L:=⟨h.tree.below b,h.says.below b⟩
theorem IsSq.more [Lo] (h:IsSq w B l L) (b:B<=B'):IsSq w B' l L:=⟨h.tree.more b,h.says.more b⟩
theorem IsSq.mW [Lo] (h:IsSq w B l L) (q:World) (b:B<=q.heap.size:=by omega):IsSq w q.heap.size l L:=h.more b
abbrev SqV.zero:SqV:=⟨nilS,⟨nilS,nilS,nilS⟩⟩
abbrev Sq.zero:Sq:=⟨[],0,⟨[],[],0,[]⟩⟩
theorem IsSq.zero [Lo] (w:World) (B:Nat):IsSq w B SqV.zero Sq.zero:=⟨RwNd.nil _ _,IsLf.zero _ _⟩
end
structure FV where
 f:FuncId
 cap:List Value
abbrev FV.v (q:FV):Value:=.func (.func q.f) #[] q.cap.toArray
abbrev FV.none:FV:=⟨0,[]⟩
abbrev okF (f : FuncId) : Prop := ((prog.funcs[f]?).map fun fn => (fn.name == "runtime.NumGoroutine", fn.body.isNone)) = some (false, false)
def firstE:List Int->Int
 | []=>0
 | e::es=>if e=0 then firstE es else e
theorem firstE_none:∀ {es:List Int},(∀ j,j<es.length->es.getD j 0=0)->firstE es=0
 | [],_=>rfl
 | e::es,h=>by
  rw [firstE,if_pos (show e=0 from h 0 (by simp))];exact firstE_none fun j hj=>h (j+1) (by simpa using hj)
theorem firstE_at:∀ {es:List Int} {t:Nat},(∀ j,j<t->es.getD j 0=0)->t<es.length->¬es.getD t 0=0->firstE es=es.getD t 0
 | [],t,_,h,_=>absurd h (Nat.not_lt_zero _)
 | e::es,0,_,_,hk=>by
  rw [firstE,if_neg (show ¬e=0 from hk)];rfl
 | e::es,t+1,h,ht,hk=>by
  rw [firstE,if_pos (show e=0 from h 0 (by omega))];exact firstE_at (fun j hj=>h (j+1) (by omega)) (by simpa using ht) hk
def Asks (W:World) (x:Value):List FV->List Int->Prop
 | [],[]=>True
 | f::fs,e::es=>(okF f.f/\∀ w,Bw W w->Calls prog f.f ([]++[x]++f.cap).toArray w fun r w'=>∃ v,r=.returned v/\v=nv e/\Bw w w')/\Asks W x fs es
 | _,_=>False
theorem asks_len {W:World} {x:Value}:∀ {fs:List FV} {es:List Int},Asks W x fs es->es.length=fs.length
 | [],[],_=>rfl
 | f::fs,e::es,h=>by
  have:=asks_len h.2;simp only [List.length_cons];omega
 | [],e::es,h=>h.elim
 | f::fs,[],h=>h.elim
theorem asks_at {W:World} {x:Value}:∀ {fs:List FV} {es:List Int} {t:Nat},Asks W x fs es->t<fs.length->okF (fs.getD t FV.none).f/\∀ w,Bw W w->Calls prog (fs.getD t FV.none).f ([]++[x]++(fs.getD t FV.none).cap).toArray w fun r w'=>∃ v,r=.returned v/\v=nv (es.getD t 0)/\Bw w w'
 | [],_,_,_,h=>absurd h (Nat.not_lt_zero _)
 | f::fs,e::es,0,h,_=>h.1
 | f::fs,e::es,t+1,h,ht=>asks_at (t:=t) h.2 (by simpa using ht)
 | f::fs,[],_,h,_=>h.elim
theorem fn_cell {w:World} {b t:Nat} {tr:TypeId} {fs:List FV} (hr:RowAt w b tr (fs.map FV.v).toArray) (ht:t<fs.length):w.cell? ⟨b,0+t*1,none⟩=some (fs.getD t FV.none).v:=by
 rw [cell_of_row w b _ _ tr _ hr,List.getElem?_toArray,List.getElem?_map,Nat.zero_add,Nat.mul_one,List.getElem?_eq_getElem ht,List.getD_eq_getElem?_getD,List.getElem?_eq_getElem ht];rfl
/- EdProg:
  What may be done to a tree: the functions of package edit.
-/
set_option maxRecDepth 20000
theorem laidP_any [Lo] {s:SlV} {l:SqV} {L:Sq} (h:RwNd W B s Ls) (hl:IsSq W B l L) (hB:B<=W.heap.size) (ht:trIs Ls) (hN:isN (2*L.i) (Ls.length:Int)) (hc:lfCheck L.says=0):Calls prog 184 #[s.v,.agg (l.cs L)] W fun e W'=>∃ v,e=.returned v/\∃ s':SlV,v=.tuple #[s'.v,nv (0)]/\RwNd W' W'.heap.size s' (laidL Ls L.i L.says)/\Bw W W':=by
 refine Ze func184 ntmps184 ?_;have u:=Br W;have h:=h.more hB;have hl:=hl.more hB;have hN0:=hN.le;obtain ⟨e1,e2⟩:=laid_set ht hN hc;refine Zr<|Zb fun b1 w1 n1=>?_
 have ⟨r1,k1,z1,lt1⟩:=n1.f;refine Xn 2 [0,3,4,5] ?_;refine ZrM ?_;refine Zy 1 ?_;refine Zv (nv L.i) r1 ?_;refine Za (yi_mul rfl rfl rfl (by omega) (by omega)) ?_;refine Zy 2 ?_;refine Za (Yp 4 r1) ?_;refine Za (y_build (cs:=(⟨l.says,PnV.zero⟩:NdV).cs (⟨1,L.says,Pn.zero⟩:Nd))) ?_;have h:=h.below (Bm n1.below);have hl:=hl.below (Bm n1.below);refine Zd (set_any (h.mW w1) (2*L.i) (show IsNd w1 w1.heap.size (⟨l.says,PnV.zero⟩:NdV) (⟨1,L.says,Pn.zero⟩:Nd) from ⟨(hl.says.mW w1),((IsPn.zero _ 0).mW w1)⟩) Lr) ?_;rintro _ w2 ⟨s2,rfl,m2,hw2⟩;have zw2:=hw2.size;refine Xu 4 [4,5] ?_;exact eg_ret_tmp2 rfl rfl rfl ⟨_,rfl,_,congrArg (fun q=>Value.tuple #[_,nv q]) e1,m2.cast e2,Un (Un u n1.below) hw2⟩
theorem hadP_any [Lo] {l:SqV} {L:Sq} (hl:IsSq W B l L) (hB:B<=W.heap.size):Calls prog 125 #[.agg (l.cs L)] W fun e W'=>∃ v,e=.returned v/\v=nv (hadE (trAs L.tree) L.i)/\Bw W W':=by
 refine Ze func125 ntmps125 ?_;have u:=Br W;have hl:=hl.more hB;refine Zr<|Zb fun b1 w1 n1=>?_
 have ⟨r1,k1,z1,lt1⟩:=n1.f;refine ZAn [1,2] ?_;refine Qd<|Qd<|cg_held (by kernel_rfl) fun W2 eW2=>?_
 have dW2:=below_drew _ _ eW2;have zW2:=size_drew _ _ eW2;clear eW2;refine Zh 0 (fun q hq=>y_fld (off:=1) (by kernel_rfl) rfl rfl) ?_;have r1:=Rb dW2 r1;refine Zh 1 (fun q hq=>Qo (v:=nv L.i) (Rb hq r1) rfl (by kernel_rfl) rfl rfl) ?_;by_cases c3:L.i<0
 ·refine Zh 2 (fun q hq=>yb (dT c3) (yi_lss rfl rfl rfl)) ?_;refine Zh 3 (fun q hq=>y_move rfl rfl) ?_;refine hg_skip 4 (by rfl) (want_f (dj:=6) (by rfl) (by kernel_rfl) rfl) rfl (by decide) (by kernel_rfl) (by kernel_rfl) (by kernel_rfl) (fun _ _ _ h=>h) (Below.refl _ _) ?_;refine hg_skip 5 (by rfl) (want_f (dj:=6) (by rfl) (by kernel_rfl) rfl) rfl (by decide) (by kernel_rfl) (by kernel_rfl) (by kernel_rfl) (fun _ _ _ h=>h) (Below.refl _ _) ?_;refine hg_skip 6 (by rfl) (want_f (dj:=6) (by rfl) (by kernel_rfl) rfl) rfl (by decide) (by kernel_rfl) (by kernel_rfl) (by kernel_rfl) (fun _ _ _ h=>h) (Below.refl _ _) ?_;refine hg_skip 7 (by rfl) (want_f (dj:=6) (by rfl) (by kernel_rfl) rfl) rfl (by decide) (by kernel_rfl) (by kernel_rfl) (by kernel_rfl) (fun _ _ _ h=>h) (Below.refl _ _) ?_;refine hg_skip1 8 (Below.refl _ _) (by rfl) (want_f (dj:=6) (by rfl) (by kernel_rfl) rfl) rfl (by decide) (by kernel_rfl) ?_;refine hg_skip 9 (by rfl) (want_f (dj:=6) (by rfl) (by kernel_rfl) rfl) rfl (by decide) (by kernel_rfl) (by kernel_rfl) (by kernel_rfl) (fun _ _ _ h=>h) (Below.refl _ _) ?_;refine Zh 10 (fun q hq=>y_pick true rfl rfl rfl) ?_;refine hg_done (by kernel_rfl) ?_;refine Nx [1,2,13] ?_;refine cg_ct rfl<|ZrAr [1,2] ?_
  refine Qc ?_;exact Qn (hadE_no (fun z=>by omega)).symm (Un (Un u n1.below) dW2)
 refine Zh 2 (fun q hq=>yb (dF c3) (yi_lss rfl rfl rfl)) ?_;refine Zh 3 (fun q hq=>y_move rfl rfl) ?_;refine Zht 4 6 (fun q hq=>y_fld (off:=1) (by kernel_rfl) rfl rfl) ?_;refine Zht 5 6 (fun q hq=>Qo (v:=nv L.i) (Rb hq r1) rfl (by kernel_rfl) rfl rfl) ?_;refine Zht 6 6 (fun q hq=>y_fld (off:=0) (by kernel_rfl) rfl rfl) ?_;refine Zht 7 6 (fun q hq=>Qo (v:=l.tree.v) (Rb hq r1) rfl (by kernel_rfl) rfl rfl) ?_;have hl:=(hl.below (Bm n1.below)).below (Bm dW2);refine Zot 8 6 ?_;refine Zdt 6 (leavesT_any (hl.tree.mW W2) Lr) ?_;rintro _ w4 ⟨rfl,hw4⟩;have zw4:=hw4.size;refine hg_next hw4 ?_;refine hg_up hw4 ?_;by_cases c5:((leavesA (trAs L.tree):Nat):Int)<=L.i
 ·refine Zht 9 6 (fun q hq=>yb (dT c5) (yi_geq rfl rfl rfl)) ?_;refine Zh 10 (fun q hq=>y_pick false rfl rfl rfl) ?_;refine hg_done (by kernel_rfl) ?_;refine Nx [1,2,13] ?_;refine cg_ct rfl<|ZrAr [1,2] ?_
  refine Qc ?_;exact Qn (hadE_no (fun z=>by omega)).symm (Un (Un (Un u n1.below) dW2) hw4)
 have hr:0<=L.i/\L.i<leavesA (trAs L.tree):=⟨by omega,by omega⟩;have hti:=leaves_tr hr.1 hr.2;have hta:=trAs_ok hti;have hll:=trIs_le hti;rw [hta] at hr;have hlv:=leavesA_eq L.tree;refine Zht 9 6 (fun q hq=>yb (dF c5) (yi_geq rfl rfl rfl)) ?_;refine Zh 10 (fun q hq=>y_pick false rfl rfl rfl) ?_;refine hg_done (by kernel_rfl) ?_;refine Nx [1,2,13] ?_;refine Zcf [1,2] ?_;refine Qd<|Qd ?_
 have hl:=hl.below (Bm hw4);obtain ⟨ebz6,eoz6,elz6,eLz6,eAz6,eBz6,egz6,ehz6,ecz6⟩:=hl.tree.at ((2*L.i).toNat) (by have:=hl.tree.len;omega);have enz6:eLz6=atN L.tree ((2*L.i).toNat):=(atN_some egz6).symm;subst enz6;refine Qe<|Zy 0 ?_
 have r1:=Rb hw4 r1;refine Zv l.tree.v r1 ?_;refine Zy 1 ?_;refine Zv (nv L.i) r1 ?_;refine Za (yi_mul rfl rfl rfl (by omega) (by omega)) ?_;obtain ⟨eb7,eo7,el7,eL7,eA7,eB7,eg7,eh7,ec7⟩:=hl.tree.at ((2*L.i).toNat) (by have:=hl.tree.len;omega);obtain rfl:(atN L.tree ((2*L.i).toNat))=eL7:=Option.some.inj (egz6.symm.trans eg7);refine Za (Yy l.tree 81 8 ((2*L.i).toNat) (2*L.i) eA7 (by omega) (by have:=hl.tree.len;omega) rfl rfl rfl) ?_;refine Zy 0 ?_;refine Za (y_celld (ec7 0 _ rfl)) ?_;refine Zi yi_eql (fun c8=>?_) fun c8=>?_
 ·refine Znt [2,22] ?_;refine ZrAr [2] ?_;refine Qc ?_;have u:=Un (Un (Un u n1.below) dW2) hw4;exact Qa rfl rfl ⟨_,rfl,congrArg nv (by rw [hta];exact (hadE_blank hr c8).symm),u⟩
 refine Zn [2,22] ?_;refine Zcf [2] ?_;refine ZrAr [2] ?_;have u:=Un (Un (Un u n1.below) dW2) hw4;exact Qa rfl rfl ⟨_,rfl,congrArg nv (by rw [hta];exact (hadE_is hr c8).symm),u⟩
theorem from1_any [Lo] {l:SqV} {L:Sq} (hl:IsSq W B l L) (hB:B<=W.heap.size) (hr:RowAt W b 3 #[nv k]):Calls prog 180 #[.agg (l.cs L),pv b 0] W fun e W'=>∃ v,e=.returned v/\v=nv (srcE L.says k)/\Bw W W':=by
 refine Ze func180 ntmps180 ?_;have u:=Br W;have hl:=hl.more hB;have hrl:=hr.lt;refine Zr<|Zb fun b1 w1 n1=>?_
 have ⟨r1,k1,z1,lt1⟩:=n1.f;refine ZAn [1,2,3] ?_;refine Qd<|Zr<|Zy 2 ?_
 refine Za (Yp 4 r1) ?_;have hl:=hl.below (Bm n1.below);refine Zd (check_any (hl.says.mW w1) Lr) ?_;rintro _ w2 ⟨rfl,hw2⟩;have zw2:=hw2.size;refine ZAn [1,2,3,4] ?_;refine ZrM ?_;refine Zj yi_neq (fun c3=>?_) fun c3=>?_
 ·refine Zn [1,2,3,4,9] ?_;refine Zcf [1,2,3] ?_;refine Qd<|Zr<|Zy 2 ?_
  refine Zy 2 ?_;have r1:=Rb hw2 r1;refine Zv (nv L.says.src) r1 ?_;have hr:=Rb hw2 (n1.keep hr);refine Zv (nv k) hr ?_;refine Zj yi_neq (fun c4=>?_) fun c4=>?_
  ·refine Zn [3,15] ?_;refine Zcf [3] ?_;refine ZrAr [3] ?_;exact Qn (srcE_is c3 c4).symm (Un (Un u n1.below) hw2)
  refine Znt [3,15] ?_;refine ZrAr [3] ?_;refine Qc ?_;exact Qn (srcE_src c3 c4).symm (Un (Un u n1.below) hw2)
 refine Znt [1,2,3,4,9] ?_;refine XRu 2 [1,2,3] ?_;refine Qc ?_;exact Qn (srcE_bad c3).symm (Un (Un u n1.below) hw2)
theorem add1_any [Lo] {l:SqV} {L:Sq} (hl:IsSq W B l L) (hB:B<=W.heap.size) (hr:RowAt W b 35 #[nv k]):Calls prog 121 #[.agg (l.cs L),pv b 0] W fun e W'=>∃ v,e=.returned v/\v=nv (k)/\Bw W W':=by
 refine Ze func121 ntmps121 ?_;have u:=Br W;have hl:=hl.more hB;have hrl:=hr.lt;refine Zr<|Zb fun b1 w1 n1=>?_
 have ⟨r1,k1,z1,lt1⟩:=n1.f;refine ZAn [1,3] ?_;refine Zr ?_;refine Za (Qv (v:=nv k) (n1.keep hr)) ?_;refine ZAnr [3] ?_;exact Qw (Un u n1.below)
theorem from_any (k:Int) (W:World):Calls prog 122 #[nv k] W fun e W'=>∃ v,e=.returned v/\∃ b:Nat,v=(⟨180,[pv b 0]⟩:FV).v/\RowAt W' b 3 #[nv k]/\W.heap.size<=b/\Bw W W':=by
 refine Ze func122 ntmps122 ?_;have u:=Br W;refine Zr<|lg_boxs rfl Wn rfl rfl rfl (by decide) fun b1 w1 n1=>?_
 have ⟨r1,k1,z1,lt1⟩:=n1.f;refine ZAn [1,2] ?_;refine Zr<|Za (y_mkf (xs:=[]) (ys:=[.tmp 1])) ?_
 refine ZAnr [2] ?_;exact Qa rfl rfl ⟨_,rfl,b1,rfl,r1,by omega,Un u n1.below⟩
theorem committed_any (hk:RwOc W B r Ks) (hB:B<=W.heap.size):Calls prog 128 #[r.v] W fun e W'=>∃ v,e=.returned v/\∃ b:Nat,v=(⟨187,[pv b 0]⟩:FV).v/\RowAt W' b 29 #[r.v]/\W.heap.size<=b/\Bw W W':=by
 refine Ze func128 ntmps128 ?_;have u:=Br W;have hk:=hk.more hB;refine Zr<|lg_boxs rfl Wn rfl rfl rfl (by decide) fun b1 w1 n1=>?_
 have ⟨r1,k1,z1,lt1⟩:=n1.f;refine ZAn [1,2] ?_;refine Zr<|Za (y_mkf (xs:=[]) (ys:=[.tmp 1])) ?_
 refine ZAnr [2] ?_;exact Qa rfl rfl ⟨_,rfl,b1,rfl,r1,by omega,Un u n1.below⟩
theorem removed_any [Lo] {l:SqV} {L:Sq} (hl:IsSq W B l L) (hB:B<=W.heap.size) (hti:trIs L.tree) (hr:0<=L.i/\L.i<leavesA L.tree) (rg:Tt W):Calls prog 126 #[.agg (l.cs L)] W fun e W'=>∃ v,e=.returned v/\∃ s':SlV,v=.tuple #[s'.v,nv (0)]/\RwNd W' W'.heap.size s' (trimL (clearL L.tree L.i))/\Bw W W':=by
 refine Ze func126 ntmps126 ?_;have u:=Br W;have hl:=hl.more hB;have hta:=trAs_ok hti;have hlv:=leavesA_eq L.tree;have hll:=trIs_len hti;have hN:isN (2*L.i) (L.tree.length:Int):=isN_of hti (by omega) (by omega);have ce:=(clear_ok hti hr).1;refine Zr<|Zb fun b1 w1 n1=>?_
 have ⟨r1,k1,z1,lt1⟩:=n1.f;refine Xn 2 [1,2,3] ?_;refine Zr<|Zy 0 ?_
 refine Zv l.tree.v r1 ?_;refine Zy 1 ?_;refine Zv (nv L.i) r1 ?_;have hl:=hl.below (Bm n1.below);have u:=Un u n1.below;refine Zd (clear_any (hl.tree.mW w1) L.i Lr (Tt.up u rg).b) ?_;rintro _ w2 ⟨s2,rfl,m2,hw2⟩;have zw2:=hw2.size;refine Xn 5 [2,3,4,5] ?_;refine ZrM ?_;refine Zc (trim_any m2 (by omega)) rfl rfl ?_;rintro _ w3 ⟨s3,rfl,m3,hw3⟩;have zw3:=hw3.size;refine Xu 3 [2,3] ?_;exact eg_ret_tmp2 rfl rfl rfl ⟨_,rfl,_,congrArg (fun q=>Value.tuple #[_,nv q]) ce,(m3.more (by omega)),Un (Un u hw2) hw3⟩
theorem changed_any [Lo] {l:SqV} {L:Sq} (hl:IsSq W B l L) (hB:B<=W.heap.size) (hti:trIs L.tree) (hr:0<=L.i/\L.i<leavesA L.tree) (hc:lfCheck L.says=0) (rg:Tt W):Calls prog 127 #[.agg (l.cs L)] W fun e W'=>∃ v,e=.returned v/\∃ s':SlV,v=.tuple #[s'.v,nv (0)]/\RwNd W' W'.heap.size s' (laidL (clearL L.tree L.i) L.i L.says)/\Bw W W':=by
 refine Ze func127 ntmps127 ?_;have u:=Br W;have hl:=hl.more hB;have hta:=trAs_ok hti;have hlv:=leavesA_eq L.tree;have hll:=trIs_len hti;have hN:isN (2*L.i) (L.tree.length:Int):=isN_of hti (by omega) (by omega);have ce:=(clear_ok hti hr).1;refine Zr<|Zb fun b1 w1 n1=>?_
 have ⟨r1,k1,z1,lt1⟩:=n1.f;refine Xn 2 [1,2,3] ?_;refine Zr<|Zy 0 ?_
 refine Zv l.tree.v r1 ?_;refine Zy 1 ?_;refine Zv (nv L.i) r1 ?_;have hl:=hl.below (Bm n1.below);have u:=Un u n1.below;refine Zd (clear_any (hl.tree.mW w1) L.i Lr (Tt.up u rg).b) ?_;rintro _ w2 ⟨s2,rfl,m2,hw2⟩;have zw2:=hw2.size;refine Xn 5 [1,2,3,4,5] ?_;refine Qd<|ZrM ?_
 refine Zan (yb (nd_f ce) yi_neq) [1,2,3,4,5,15] ?_;refine Zcf [1,2,3,4] ?_;refine ZrM ?_;have r1:=Rb hw2 r1;refine Za (y_loadA r1) ?_;have hl:=hl.below (Bm hw2);refine Zc (laidP_any (m2.mW w2) (hl.mW w2) Lr (clear_is hti hr).1 (by rw [(clear_is hti hr).2];exact hN) hc) rfl rfl ?_;rintro _ w3 ⟨s3,rfl,m3,hw3⟩;have zw3:=hw3.size;refine Xu 4 [2,3] ?_;exact eg_ret_tmp2 rfl rfl rfl ⟨_,rfl,_,rfl,m3,Un (Un u hw2) hw3⟩
theorem committed1_any [Lo] {l:SqV} {L:Sq} (hl:IsSq W B l L) (hB:B<=W.heap.size) (hti:trIs L.tree) (hr:0<=L.i/\L.i<leavesA L.tree) (hc:lfCheck L.says=0) (hk:RwOc W B r Ks) (hr0:RowAt W b 29 #[r.v]) (rg:Tt W):Calls prog 187 #[.agg (l.cs L),pv b 0] W fun e W'=>∃ v,e=.returned v/\∃ s':SlV,v=.tuple #[s'.v,nv (comX L.tree L.i L.says Ks)]/\RwNd W' W'.heap.size s' (comY L.tree L.i L.says Ks)/\Bw W W':=by
 refine Ze func187 ntmps187 ?_;have u:=Br W;have hl:=hl.more hB;have hta:=trAs_ok hti;have hlv:=leavesA_eq L.tree;have hll:=trIs_len hti;have hN:isN (2*L.i) (L.tree.length:Int):=isN_of hti (by omega) (by omega);have ce:=(clear_ok hti hr).1;have hk:=hk.more hB;have hrl:=hr0.lt;refine Zr<|Zb fun b1 w1 n1=>?_
 have ⟨r1,k1,z1,lt1⟩:=n1.f;refine Xn 2 [1,2,3,4] ?_;refine Zr<|Zy 0 ?_
 refine Zv l.tree.v r1 ?_;refine Zy 1 ?_;refine Zv (nv L.i) r1 ?_;have hr0:=n1.keep hr0;refine Zv r.v hr0 ?_;have hk:=hk.below (Bm n1.below);have hl:=hl.below (Bm n1.below);have u:=Un u n1.below;refine Zc ((by have z:=plan_any (hl.tree.mW w1) L.i (hk.mW w1) Lr (Tt.up u rg);rwa [hta] at z)) rfl rfl ?_;rintro _ w2 ⟨s2,r2,rfl,m2,n2,hw2⟩;have zw2:=hw2.size;have pl2:=planH_le L.tree L.i Ks;refine Xn 7 [2,3,4,5,6,7] ?_;refine Qd<|ZrM ?_
 by_cases c3:(planE L.tree L.i Ks)=0
 ·have hpE:=c3;refine Zan (yb (nd_f c3) yi_neq) [2,3,4,5,6,7,19] ?_;refine Zcf [2,3,4,5,6] ?_;refine Qd<|Zr<|Zy 2 ?_
  refine Zy 3 ?_;have r1:=Rb hw2 r1;refine Zv l.says.par.v r1 ?_;refine ZM ?_;have hl:=hl.below (Bm hw2);refine Zi (Qp (bytesEq_S hl.says.par n2)) (fun c4=>?_) fun c4=>?_
  ·refine Xn 1 [2,3,4,5,26] ?_;refine Zcf [2,3,4,5] ?_;refine ZrM ?_;refine Za (y_loadA r1) ?_;refine Zc (laidP_any (m2.mW w2) (hl.mW w2) Lr (planP_is hti _ _) (by rw [planP_len hpE];exact hN) hc) rfl rfl ?_;rintro _ w5 ⟨s5,rfl,m5,hw5⟩;have zw5:=hw5.size;refine Xu 4 [3,4] ?_;obtain ⟨x1,x2⟩:comX L.tree L.i L.says Ks=0/\comY L.tree L.i L.says Ks=(laidL (planP L.tree L.i Ks) L.i L.says):=(comX_ok hpE c4);exact eg_ret_tmp2 rfl rfl rfl ⟨_,rfl,_,congrArg (fun q=>Value.tuple #[_,nv q]) x1.symm,m5.cast x2.symm,Un (Un u hw2) hw5⟩
  refine Xn 1 [2,3,4,5,26] ?_;refine cg_ct rfl<|ZrA ?_
  refine ZAnr [2,5,3,4] ?_;refine Qc ?_;obtain ⟨x1,x2⟩:comX L.tree L.i L.says Ks=12/\comY L.tree L.i L.says Ks=[]:=(comX_hash hpE c4);exact eg_ret_tmp2 rfl rfl rfl ⟨_,rfl,nilS,congrArg (fun q=>Value.tuple #[_,nv q]) x1.symm,(RwNd.nil _ _).cast x2.symm,Un u hw2⟩
 refine Zant (yb (nd_t c3) yi_neq) [2,3,4,5,6,7,19] ?_;refine XRu 3 [2,5,6,3,4] ?_;refine Qc ?_;obtain ⟨x1,x2⟩:comX L.tree L.i L.says Ks=(planE L.tree L.i Ks)/\comY L.tree L.i L.says Ks=[]:=(comX_plan c3);exact eg_ret_tmp2 rfl rfl rfl ⟨_,rfl,nilS,congrArg (fun q=>Value.tuple #[_,nv q]) x1.symm,(RwNd.nil _ _).cast x2.symm,Un u hw2⟩
set_option maxHeartbeats 1000000 in
theorem joined_any [Lo] {l:SqV} {L:Sq} (hl:IsSq W B l L) (hB:B<=W.heap.size) (hti:trIs L.tree) (hN:isN (2*L.i) (L.tree.length:Int)) (hc:lfCheck L.says=0) (rg:Tt W):Calls prog 123 #[.agg (l.cs L)] W fun e W'=>∃ v,e=.returned v/\∃ s':SlV,v=.tuple #[s'.v,nv (0)]/\RwNd W' W'.heap.size s' (laidL (joinW L.i (dirI (2*L.i) (L.tree.length:Int)) L.tree) L.i L.says)/\Bw W W':=by
 refine Ze func123 ntmps123 ?_;have u:=Br W;have hl:=hl.more hB;have hll:=trIs_le hti;have hNl:=hN.le;have hpos:0<L.tree.length:=by omega
 have dlt:=dirL (2*L.i) (L.tree.length:Int);refine Zr<|Zb fun b1 w1 n1=>?_
 have ⟨r1,k1,z1,lt1⟩:=n1.f;refine Xn 2 [1,2,3] ?_;refine Zr<|Zy 0 ?_
 refine Zv l.tree.v r1 ?_;have hl:=hl.below (Bm n1.below);obtain ⟨bc,hbc⟩:∃ q,q=w1.heap.size:=⟨_,rfl⟩;refine Zc (clone_any (hl.tree.mW w1) hbc hpos (by omega)) rfl rfl ?_;rintro _ w2 ⟨s2,rfl,g2,hw2⟩;have zw2:=hw2.size;obtain ⟨ga,gb,gn⟩:=OwnNa.of g2 Lr (by omega) hpos;have gnl:=gn.lt;refine ZAn [1,2,3,4] ?_;refine Qd<|Zr<|Zy 1 ?_
 have r1:=Rb hw2 r1;refine Zv (nv L.i) r1 ?_;refine Za (yi_mul rfl rfl rfl (by omega) (by omega)) ?_;refine ZM ?_;refine Za (y_lenM (el:=81) gn.row.len) ?_;have u:=Un (Un u n1.below) hw2;refine Zd (directF (2*L.i) (L.tree.length:Int) _ (Tt.up u rg).b) ?_;rintro _ w3 ⟨s3,rfl,m3,f3,hw3⟩;have zw3:=hw3.size;refine Za (y_lenM (el:=3) m3.len) ?_;refine Xn 1 [1,2,3,4,16,17,18] ?_;refine Qj ?_;obtain ⟨C,hC⟩:∃ q,q=w3.heap.size:=⟨_,rfl⟩;have gn:=gn.below hw3;have hl:=(hl.below (Bm hw2)).below (Bm hw3);have r1:=Rb hw3 r1;have u:=Un u hw3;refine Qr (fun t a v=>Holds 48 [(1,pv b1 0),(4,s2.v),(16,s3.v),(17,nv ((dirI (2*L.i) (L.tree.length:Int)).length:Int)),(18,nv ((t:Nat):Int))] a/\IsSq v W.heap.size l L/\RowAt v b1 136 (l.cs L)/\SlN v C s3 (dirI (2*L.i) (L.tree.length:Int))/\Bw W v/\C<=v.heap.size/\t<=(dirI (2*L.i) (L.tree.length:Int)).length/\OwnNa v ga v.heap.size s2 (joinW L.i ((dirI (2*L.i) (L.tree.length:Int)).take t) L.tree)) ((dirI (2*L.i) (L.tree.length:Int)).length+1) (fun a ha=>⟨ha.keep kz,hl,r1,(m3.more (by omega)),u,(by omega),(Nat.zero_le _),gn.up⟩) ?_;rintro t a v ht ⟨ha,hl,r1,hd,u,cC,tle,go⟩;refine cg_at ha ?_;clear ha a;have zv:=u.size;have l_r1:=r1.lt;have qd:=hd.len;have jl:=joinW_len L.i ((dirI (2*L.i) (L.tree.length:Int)).take t) L.tree;have qo:=go.len;have gl:=go.lt;refine Zr ?_;refine Zi yi_lss (fun c4=>?_) fun c4=>?_
 ·refine Zn [1,4,16,17,18,19] ?_;refine Qd<|cg_ct rfl<|Zki [1,4,16,17,18] ?_
  refine Qd<|Qj<|Qd ?_
  have htn:t<(dirI (2*L.i) (L.tree.length:Int)).length:=by omega
  have hdn:=dir_all hN ((dirI (2*L.i) (L.tree.length:Int)).getD t 0) (getD_in htn);refine Qe<|Za (y_ixT (i:=t) (iI:=((t:Nat):Int)) hd (by omega) (by omega) rfl rfl rfl) ?_
  refine Za (yv (congrArg nv (show (dirI (2*L.i) (L.tree.length:Int)).getD t 0=(((dirI (2*L.i) (L.tree.length:Int)).getD t 0).toNat:Int) by omega)) (y_ldT (i:=t) hd (by omega) rfl rfl)) ?_;refine ZAn [1,4,16,17,18,6] ?_;refine XR 2 ?_;refine Za (Yx s2 81 8 (((dirI (2*L.i) (L.tree.length:Int)).getD t 0).toNat) go.1 (by have q1:=go.len;first | omega | (simp only [List.length_append,List.length_cons,List.length_nil,List.length_take,List.length_drop,List.length_set,List.length_replicate,clr_len] at q1;omega)) rfl rfl rfl) ?_;refine ZAn [1,4,16,17,18,7] ?_;refine ZrM ?_;refine Za y_nilc ?_;refine Zy 0 ?_;obtain ⟨el5,eh5,ef5,ec5⟩:=go.at (i:=(((dirI (2*L.i) (L.tree.length:Int)).getD t 0).toNat)) (by omega);refine Za (y_celld (ec5 0 _ rfl)) ?_;refine Zi yi_eql (fun c6=>?_) fun c6=>?_
  ·refine Znt [1,4,16,17,18,7,29] ?_;have hun:=(unm_small (joinW_is (i:=L.i) (by omega) (by omega) ((dirI (2*L.i) (L.tree.length:Int)).take t) hti) ((dirI (2*L.i) (L.tree.length:Int)).getD t 0).toNat).2;have r1o:=r1;refine cg_heldS (fun q=>Alt v q ga) (by kernel_rfl) (fun W7 eW7=>?_) fun W7 eW7=>?_
   ·exact Below.kept (below_drew _ _ eW7)
   have dW7:=below_drew _ _ eW7;have zW7:=size_drew _ _ eW7;clear eW7;have al0:Alt v W7 ga:=Below.kept dW7;refine Zg 0 al0 (fun q hq=>y_move rfl rfl) ?_;refine Zg 1 al0 (fun q hq=>y_move rfl rfl) ?_;refine hgs_takev 2 (by rfl) Wn rfl (by decide) (by kernel_rfl) (by kernel_rfl) (by kernel_rfl) (fun _ _ _ h=>h) al0 (v_nilc rfl rfl) ?_;refine Zg 3 al0 (fun q hq=>y_fld (off:=5) (by kernel_rfl) rfl rfl) ?_;refine Zg 4 al0 (fun q hq=>y_fld (off:=2) (by kernel_rfl) rfl rfl) ?_;refine Zg 6 al0 (fun q hq=>y_fld (off:=1) (by kernel_rfl) rfl rfl) ?_;refine Zg 7 al0 (fun q hq=>Qo (v:=nv L.i) (hq.row (show b1≠ga by omega) r1o) rfl (by kernel_rfl) rfl rfl) ?_;refine hgs_one 5 (by rfl) (by kernel_rfl) Wn ?_;have go:=go.below dW7;obtain ⟨el8,eh8,ef8,ec8⟩:=go.at (i:=(((dirI (2*L.i) (L.tree.length:Int)).getD t 0).toNat)) (by omega);refine Za (y_celld (ec8 7 _ rfl)) ?_;refine hgs_next al0 ?_;refine hgs_one 8 (by rfl) (by kernel_rfl) Wn ?_;refine Zc (joinPF_any L.i (eh8.inner.unm.mW W7) Lr (by omega)) rfl rfl ?_;rintro _ w9 ⟨r9,rfl,m9,f9,hw9⟩;have zw9:=hw9.size;have al0:=Alt.grow al0 hw9;refine hgs_next al0 ?_;refine hgs_takev 9 (by rfl) Wn rfl (by decide) (by kernel_rfl) (by kernel_rfl) (by kernel_rfl) (fun _ _ _ h=>h) al0 (v_nilc rfl rfl) ?_;refine Zg 10 al0 (fun q hq=>y_fld (off:=5) (by kernel_rfl) rfl rfl) ?_;refine Zg 11 al0 (fun q hq=>y_fld (off:=2) (by kernel_rfl) rfl rfl) ?_;refine hgs_one 12 (by rfl) (by kernel_rfl) Wn ?_;have go:=go.below hw9;refine lg_stU (i:=(((dirI (2*L.i) (L.tree.length:Int)).getD t 0).toNat)) (r:=r9) go (m9.mW w9) (OffS.fr f9 (by omega)) (by omega) Wn rfl rfl rfl rfl fun w10 new10 st10 g10=>?_;have z10:=st10.size;have al0:=al0.trans (Set1.alt st10);refine hgs_next al0 ?_;refine hgs_done (by kernel_rfl) ?_;refine Qi<|Nx [1,4,16,17,18] ?_
   refine Qe<|Za Yj ?_
   refine ZM ?_;refine Qk ?_;exact fun a ha=>(show t<((dirI (2*L.i) (L.tree.length:Int)).length+1)/\_ from ⟨(by omega),ha.keep kz,((hl.below (Bm dW7)).below (Bm hw9)).below st10.bl,st10.keep (Rb hw9 (Rb dW7 r1)) (by omega),((hd.below (Bm dW7)).below (Bm hw9)).offB (by omega) (OffS.fr f3 (by omega)) (Set1.alt st10),(Un (Un u dW7) hw9).trans st10.bl,(by omega),(by omega),(g10.up.cast (join_yes htn c6))⟩)
  refine Xc 0 [1,4,16,17,18,7,29] ?_;refine cg_skip<|Qi<|Nx [1,4,16,17,18] ?_
  refine Qe<|Za Yj ?_
  refine ZM ?_;refine Qk ?_;exact fun a ha=>(show t<((dirI (2*L.i) (L.tree.length:Int)).length+1)/\_ from ⟨(by omega),ha.keep kz,hl,r1,hd,u,(by omega),(by omega),(go.up.cast (join_no htn c6))⟩)
 refine Zn [1,4,16,17,18,19] ?_;refine Qd<|cg_cf rfl<|cg_exit<|Qh<|Qh<|Ql<|Nx [1,4] ?_
 refine ZrM ?_;refine Za (y_loadA r1) ?_;refine Zc (laidP_any (go.row.mW v) (hl.mW v) Lr (joinW_is (i:=L.i) (by omega) (by omega) _ hti) (by rw [joinW_len];exact hN) hc) rfl rfl ?_;rintro _ w11 ⟨s11,rfl,m11,hw11⟩;have zw11:=hw11.size;refine Xu 4 [2,3] ?_;obtain rfl:t=(dirI (2*L.i) (L.tree.length:Int)).length:=by omega
 have u:=Un u hw11;exact eg_ret_tmp2 rfl rfl rfl ⟨_,rfl,_,rfl,m11.cast (by rw [List.take_length]),u⟩
theorem at_any [Lo] {fs:List FV} {es:List Int} {gv:FV} {l:SqV} {L:Sq} {E:Int} (hl:IsSq W B l L) (hB:B<=W.heap.size) (hr:RowAt W b 138 (fs.map FV.v).toArray) (hm:fs.length<=10) (hask:Asks W (.agg (l.cs L)) fs es) (hgv:okF gv.f) (hbec:firstE es=0->∀ w,Bw W w->Calls prog gv.f ([]++[Value.agg (l.cs L)]++gv.cap).toArray w fun e w'=>∃ v,e=.returned v/\∃ s':SlV,v=.tuple #[s'.v,nv E]/\RwNd w' w'.heap.size s' Ls/\Bw w w'):Calls prog 124 #[.agg #[(⟨some ⟨b,0,none⟩,fs.length,fs.length⟩:SlV).v,gv.v],.agg (l.cs L)] W fun e W'=>∃ v,e=.returned v/\∃ s':SlV,v=.tuple #[s'.v,nv (if firstE es=0 then E else firstE es)]/\RwNd W' W'.heap.size s' (if firstE es=0 then Ls else [])/\Bw W W':=by
 refine Ze func124 ntmps124 ?_;have u:=Br W;have hl:=hl.more hB;have hrl:=hr.lt;have hel:=asks_len hask;refine Zr<|Zb fun b1 w1 n1=>?_
 have ⟨r1,k1,z1,lt1⟩:=n1.f;refine Zb fun b2 w2 n2=>?_;have ⟨r2,k2,z2,lt2⟩:=n2.f;refine Xn 2 [2,3,4,5] ?_;refine Qd<|Zr<|Zy 0 ?_
 have r1:=n2.keep r1;refine Zv ((⟨some ⟨b,0,none⟩,fs.length,fs.length⟩:SlV).v) r1 ?_;refine Za (y_lenM (el:=138) (show fs.length=(⟨some ⟨b,0,none⟩,fs.length,fs.length⟩:SlV).m from rfl)) ?_;refine Xn 1 [2,3,4,5,10,11,12] ?_;refine Qj ?_;have hl:=(hl.below (Bm n1.below)).below (Bm n2.below);have hr:=n2.keep (n1.keep hr);have u:=Un (Un u n1.below) n2.below;refine Qr (fun t a v=>Holds 29 [(2,pv b1 0),(3,pv b2 0),(10,(⟨some ⟨b,0,none⟩,fs.length,fs.length⟩:SlV).v),(11,nv (fs.length:Int)),(12,nv ((t:Nat):Int))] a/\IsSq v W.heap.size l L/\RowAt v b 138 (fs.map FV.v).toArray/\RowAt v b1 143 #[(⟨some ⟨b,0,none⟩,fs.length,fs.length⟩:SlV).v,gv.v]/\RowAt v b2 136 (l.cs L)/\Bw W v/\t<=fs.length/\∀ j,j<t->es.getD j 0=0) (fs.length+1) (fun a ha=>⟨ha.keep kz,hl,hr,r1,r2,u,(Nat.zero_le _),(fun j hj=>absurd hj (Nat.not_lt_zero _))⟩) ?_;rintro t a v ht ⟨ha,hl,hr,r1,r2,u,tle,hpre⟩;refine cg_at ha ?_;clear ha a;have zv:=u.size;have l_hr:=hr.lt;have l_r1:=r1.lt;have l_r2:=r2.lt;refine Zr ?_;refine Zi yi_lss (fun c3=>?_) fun c3=>?_
 ·refine Zn [2,3,10,11,12,13] ?_;refine Qd<|cg_ct rfl<|Zki [2,3,10,11,12] ?_
  refine Qd<|Qj<|Qd ?_
  have htn:t<fs.length:=by omega
  refine Qe<|Za (Yx ⟨some ⟨b,0,none⟩,fs.length,fs.length⟩ 138 1 t rfl (by show t<fs.length;omega) rfl rfl rfl) ?_
  refine Za (y_celld (fn_cell hr (show t<fs.length by omega)) (by kernel_rfl) rfl rfl) ?_;refine ZAn [2,3,10,11,12,7] ?_;refine ZrM ?_;refine Za (y_loadA r2) ?_;refine lg_callv (f:=(fs.getD t FV.none).f) (fs:=[]) (vs:=[.agg (l.cs L)]) (us:=(fs.getD t FV.none).cap) Wn ((asks_at hask htn).2 _ u) (asks_at hask htn).1 rfl rfl rfl rfl (by decide) ?_;rintro _ w4 ⟨rfl,hw4⟩;have zw4:=hw4.size;refine ZAn [2,3,10,11,12,8] ?_;refine ZrM ?_;refine Zj yi_neq (fun c5=>?_) fun c5=>?_
  ·refine Xc 0 [2,3,10,11,12,8,20] ?_;refine cg_skip<|Qi<|Nx [2,3,10,11,12] ?_
   refine Qe<|Za Yj ?_
   refine ZM ?_;refine Qk ?_;exact fun a ha=>(show t<(fs.length+1)/\_ from ⟨(by omega),ha.keep kz,hl.below (Bm hw4),Rb hw4 hr,Rb hw4 r1,Rb hw4 r2,Un u hw4,(by omega),(fun j hj=>if z:j<t then hpre j z else (show j=t by omega)▸c5)⟩)
  refine Znt [2,3,10,11,12,8,20] ?_;refine XRu 3 [2,3,10,11,12,4,5] ?_;refine Qg<|Qc<|Qc<|Qg<|Qc ?_
  have hne:=c5;have hz:=firstE_at hpre (by omega) hne;have hz2:¬firstE es=0:=by rw [hz];exact hne
  have u:=Un u hw4;exact eg_ret_tmp2 rfl rfl rfl ⟨_,rfl,nilS,congrArg (fun q=>Value.tuple #[_,nv q]) (by rw [if_neg hz2,hz]),(RwNd.nil _ _).cast (if_neg hz2).symm,u⟩
 refine Zn [2,3,10,11,12,13] ?_;refine Qd<|cg_cf rfl<|cg_exit<|Qh<|Qh<|Ql<|Nx [2,3] ?_
 refine Zr<|Zy 1 ?_
 refine Zv gv.v r1 ?_;refine Za (y_loadA r2) ?_;have hz:=firstE_none (es:=es) fun j hj=>hpre j (by omega);refine lg_callv (f:=gv.f) (fs:=[]) (vs:=[.agg (l.cs L)]) (us:=gv.cap) Wn (hbec hz _ u) hgv rfl rfl rfl rfl (by decide) ?_;rintro _ w6 ⟨s6,rfl,m6,hw6⟩;have zw6:=hw6.size;refine Xu 4 [4,5] ?_;exact eg_ret_tmp2 rfl rfl rfl ⟨_,rfl,_,congrArg (fun q=>Value.tuple #[_,nv q]) (if_pos hz).symm,m6.cast (if_pos hz).symm,Un u hw6⟩
/- EdDo:
  What may be done to a tree: Add, Remove, Change, Commit.
-/
set_option maxRecDepth 20000
theorem asks_nil {W:World} {x:Value}:Asks W x [] []:=trivial
theorem asks_cons {W:World} {x:Value} {f:FV} {fs:List FV} {e:Int} {es:List Int} (h:okF f.f) (k:∀ w,Bw W w->Calls prog f.f ([]++[x]++f.cap).toArray w fun r w'=>∃ v,r=.returned v/\v=nv e/\Bw w w') (t:Asks W x fs es):Asks W x (f::fs) (e::es):=⟨⟨h,k⟩,t⟩
theorem first_one {a:Int}:firstE [a]=a:=by
 unfold firstE;split
 ·rename_i h
  exact h.symm
 rfl
theorem first_two {a b:Int}:firstE [a,b]=if a=0 then b else a:=by
 rw [firstE];split
 ·exact first_one
 rfl
theorem first_zero {a b:Int} (h:firstE [a,b]=0):a=0/\b=0:=by
 rw [first_two] at h;split at h
 ·rename_i q
  exact ⟨q,h⟩
 rename_i q
 exact absurd h q
theorem add_at {a:List Nd} {l:Lf}:(if firstE [srcE l 1,roomE a]=0 then (0:Int) else firstE [srcE l 1,roomE a])=addE a l/\(if firstE [srcE l 1,roomE a]=0 then laidL (joinW (freeA (roomL a)) (dirI (2*freeA (roomL a)) (roomL a).length) (roomL a)) (freeA (roomL a)) l else [])=addL a l:=by
 have e:addE a l=firstE [srcE l 1,roomE a]:=by rw [first_two,addE]
 rw [addL,e];refine ⟨?_,rfl⟩;split
 ·rename_i h
  exact h.symm
 rfl
theorem rem_at {a:List Nd} {i:Int}:(if firstE [hadE a i]=0 then (0:Int) else firstE [hadE a i])=hadE a i/\(if firstE [hadE a i]=0 then trimL (clearL a i) else [])=remL a i:=by
 rw [first_one,remL];refine ⟨?_,rfl⟩;split
 ·rename_i h
  exact h.symm
 rfl
theorem cha_at {a:List Nd} {i:Int} {l:Lf}:(if firstE [hadE a i,srcE l 2]=0 then (0:Int) else firstE [hadE a i,srcE l 2])=chaE a i l/\(if firstE [hadE a i,srcE l 2]=0 then laidL (clearL a i) i l else [])=chaL a i l:=by
 have e:chaE a i l=firstE [hadE a i,srcE l 2]:=by rw [first_two,chaE]
 rw [chaL,e];refine ⟨?_,rfl⟩;split
 ·rename_i h
  exact h.symm
 rfl
theorem com_at {a:List Nd} {i:Int} {l:Lf} {ks:List (List Int)}:(if firstE [hadE a i,srcE l 3]=0 then comX a i l ks else firstE [hadE a i,srcE l 3])=comE a i l ks/\(if firstE [hadE a i,srcE l 3]=0 then comY a i l ks else [])=comL a i l ks:=by
 by_cases h:firstE [hadE a i,srcE l 3]=0
 ·obtain ⟨h1,h2⟩:=first_zero h;obtain ⟨x1,x2⟩:=comE_X (ks:=ks) h1 h2;rw [if_pos h,if_pos h,x1,x2];exact ⟨rfl,rfl⟩
 rw [if_neg h,if_neg h];by_cases q:hadE a i=0
 ·have hs:¬srcE l 3=0:=fun z=>h (by rw [first_two,if_pos q,z]);have e:=comE_src (ks:=ks) q hs;rw [first_two,if_pos q,e];exact ⟨rfl,(comi_no (by rw [e];exact hs)).symm⟩
 have e:=comE_had (l:=l) (ks:=ks) q;rw [first_two,if_neg q,e];exact ⟨rfl,(comi_no (by rw [e];exact q)).symm⟩
theorem room_any [Lo] {W:World} {B:Nat} {s:SlV} {Ls:List Nd} (h:RwNd W B s Ls) (hB:B<=W.heap.size):Calls prog 120 #[s.v] W fun e W'=>∃ v,e=.returned v/\∃ s':SlV,v=.tuple #[s'.v,nv (freeA (roomL (trAs Ls))),nv (roomE (trAs Ls))]/\RwNd W' W'.heap.size s' (roomL (trAs Ls))/\Bw W W':=by
 refine Ze func120 ntmps120 ?_;have u:=Br W;have h:=h.more hB;refine XRn 3 [0,2,3,4] ?_;refine Qd<|ZrM ?_
 refine Zd (free_any (h.mW W) Lr) ?_;rintro _ w1 ⟨rfl,hw1⟩;have zw1:=hw1.size;refine ZAn [0,2,3,4,5] ?_;refine ZrM ?_;refine Zj yi_neq (fun c2=>?_) fun c2=>?_
 ·refine Zn [0,2,3,4,5,11] ?_;refine Zcf [0,2,3,4] ?_;refine ZrM ?_;have h:=h.below (Bm hw1);refine Zd (grow_any (h.mW w1) Lr) ?_;rintro _ w3 ⟨s3,rfl,m3,hw3⟩;have zw3:=hw3.size;refine Xn 5 [2,3,4,6,7] ?_;refine XR 2 ?_;refine Zd (free_any (m3.mW w3) Lr) ?_;rintro _ w4 ⟨rfl,hw4⟩;have zw4:=hw4.size;refine Xu 4 [2,3,4] ?_;have hf:=c2;obtain ⟨r1,r2⟩:=room_no hf;have r3:=grow_as Ls;have r4:trAs (growL Ls)=growL Ls:=trAs_ok (trIs_growL Ls);have m3:=m3.below (Bm hw4);have u:=Un (Un (Un u hw1) hw3) hw4;exact eg_ret_tmp3 rfl rfl rfl rfl ⟨_,rfl,s3,by rw [r1,r2,r3.1,r3.2,r4];rfl,(m3.more (by omega)).cast (by rw [r2,r3.1]),u⟩
 refine Znt [0,2,3,4,5,11] ?_;refine XRu 5 [0,2,3,4] ?_;refine Qc ?_;have hf:=c2;have hta:=trAs_ok (free_as hf);obtain ⟨r1,r2⟩:=room_yes hf;have h:=h.below (Bm hw1);have u:=Un u hw1;exact eg_ret_tmp3 rfl rfl rfl rfl ⟨_,rfl,s,by rw [r1,r2],(h.more (by omega)).cast (by rw [r2,hta]),u⟩
set_option maxHeartbeats 1000000 in
theorem add_any [Lo] {W:World} {B:Nat} {s:SlV} {Ls:List Nd} (h:RwNd W B s Ls) {l:LfV} {L:Lf} (hl:IsLf W B l L) (hB:B<=W.heap.size) (rg:Tt W):Calls prog 76 #[s.v,.agg (l.cs L)] W fun e W'=>∃ v,e=.returned v/\∃ s':SlV,v=.tuple #[s'.v,nv (addI (trAs Ls) L),nv (addE (trAs Ls) L)]/\RwNd W' W'.heap.size s' (addL (trAs Ls) L)/\Bw W W':=by
 refine Ze func76 ntmps76 ?_;have u:=Br W;have h:=h.more hB;have hl:=hl.more hB;refine Zr<|Zb fun b1 w1 n1=>?_
 have ⟨r1,k1,z1,lt1⟩:=n1.f;refine Xn 3 [0,3,4,5,6] ?_;refine ZrM ?_;have h:=h.below (Bm n1.below);refine Zd (room_any (h.mW w1) Lr) ?_;rintro _ w2 ⟨s2,rfl,m2,hw2⟩;have zw2:=hw2.size;refine Xa 4 ?_;refine lg_allocs (u:=nv 0) (by kernel_rfl) rfl Wn rfl rfl (by decide) fun b3 w3 n3=>?_;have ⟨r3,k3,z3,lt3⟩:=n3.f;refine Xa 2 ?_;have o4:=r3;refine lg_sts r3 rfl rfl (by kernel_rfl) Wn rfl rfl rfl rfl fun w4 s4=>?_;have ⟨r3,z4⟩:=s4.f;refine Zn [3,4,5,6,9,7,8] ?_;refine Zr<|Za (y_mkf (xs:=[]) (ys:=[.tmp 9])) ?_
 refine ZAn [3,4,5,6,7,8,10] ?_;refine Qd<|cg_held (by kernel_rfl) fun W5 eW5=>?_
 have dW5:=below_drew _ _ eW5;have zW5:=size_drew _ _ eW5;clear eW5;refine Zh 1 (fun q hq=>y_move rfl rfl) ?_;refine Zh 4 (fun q hq=>y_move rfl rfl) ?_;refine Zh 5 (fun q hq=>y_move rfl rfl) ?_;have r1:=Rb dW5 (s4.kp (n3.keep (Rb hw2 r1)));refine Zh 6 (fun q hq=>y_loadA (Rb hq r1) (by kernel_rfl) (by kernel_rfl) rfl rfl) ?_;refine Zh 7 (fun q hq=>y_build (cs:=(⟨s2,l⟩:SqV).cs (⟨(roomL (trAs Ls)),(freeA (roomL (trAs Ls))),L⟩:Sq)) rfl rfl (by kernel_rfl)) ?_;refine Zo 0 ?_;refine Zd (from_any 1 _) ?_;rintro _ w6 ⟨b6,rfl,r6,lb6,hw6⟩;have zw6:=hw6.size;have lt6:=r6.lt;refine hg_next hw6 ?_;refine hg_up hw6 ?_;refine Zo 2 ?_;refine lg_bslice (el:=138) (z:=.nilFunc) (cs:=#[((⟨180,[pv b6 0]⟩:FV).v),((⟨121,[pv b3 0]⟩:FV).v)]) (by kernel_rfl) (by kernel_rfl) (by decide) (by decide) rfl rfl (by kernel_rfl) rfl rfl (by decide) fun b7 w7 n7=>?_;have ⟨r7,k7,z7,lt7⟩:=n7.f;refine hg_next n7.below ?_;refine hg_up n7.below ?_;refine Zh 3 (fun q hq=>y_build (cs:=#[(⟨some ⟨b7,0,none⟩,2,2⟩:SlV).v,((⟨123,[]⟩:FV).v)]) rfl rfl (by kernel_rfl)) ?_;have r6:=n7.keep r6;have r3:=n7.keep (Rb hw6 (Rb dW5 r3));have u:=Un (Un (Un ((Un (Un (Un u n1.below) hw2) n3.below).trans s4.bl) dW5) hw6) n7.below;have m2:=((((m2.below (Bm n3.below)).below s4.bl).below (Bm dW5)).below (Bm hw6)).below (Bm n7.below);have hl:=((((((hl.below (Bm n1.below)).below (Bm hw2)).below (Bm n3.below)).below s4.bl).below (Bm dW5)).below (Bm hw6)).below (Bm n7.below);refine Zo 8 ?_;have hsp:IsSq w7 w7.heap.size (⟨s2,l⟩:SqV) (⟨(roomL (trAs Ls)),(freeA (roomL (trAs Ls))),L⟩:Sq):=(show IsSq w7 w7.heap.size (⟨s2,l⟩:SqV) (⟨(roomL (trAs Ls)),(freeA (roomL (trAs Ls))),L⟩:Sq) from ⟨(m2.mW w7),(hl.mW w7)⟩);refine Zc ((by have z:=at_any (fs:=[⟨180,[pv b6 0]⟩,⟨121,[pv b3 0]⟩]) (es:=[srcE L 1,roomE (trAs Ls)]) (gv:=⟨123,[]⟩) (E:=0) (Ls:=laidL (joinW (freeA (roomL (trAs Ls))) (dirI (2*freeA (roomL (trAs Ls))) (roomL (trAs Ls)).length) (roomL (trAs Ls))) (freeA (roomL (trAs Ls))) L) hsp Lr r7 (Nat.le_of_ble_eq_true rfl) (asks_cons (by unfold okF;kernel_rfl) (fun w b=>from1_any (hsp.below b) b.size (Rb b r6)) (asks_cons (by unfold okF;kernel_rfl) (fun w b=>add1_any (hsp.below b) b.size (Rb b r3)) asks_nil)) (by unfold okF;kernel_rfl) (fun hz w b=>(by obtain ⟨z1,z2⟩:=first_zero hz;obtain ⟨r0,_,_,_,r4,_⟩:=room_ok (trAs_is Ls) z2;exact joined_any (hsp.below b) b.size r0 r4 (srcE_ok z1).1 (Tt.up b (Tt.up u rg))));rwa [add_at.1,add_at.2] at z)) rfl rfl ?_;rintro _ w8 ⟨s8,rfl,m8,hw8⟩;have zw8:=hw8.size;refine hg_next hw8 ?_;refine hg_up hw8 ?_;refine Zh 9 (fun q hq=>y_move rfl rfl) ?_;refine hg_takev 10 (by rfl) Wn rfl (by decide) (by kernel_rfl) (by kernel_rfl) (by kernel_rfl) (fun _ _ _ h=>h) (Below.refl _ _) (v_extract rfl rfl rfl) ?_;refine hg_takev 11 (by rfl) Wn rfl (by decide) (by kernel_rfl) (by kernel_rfl) (by kernel_rfl) (fun _ _ _ h=>h) (Below.refl _ _) (v_extract rfl rfl rfl) ?_;refine Zh 12 (fun q hq=>y_assign rfl rfl) ?_;refine Zh 13 (fun q hq=>y_assign rfl rfl) ?_;refine hg_done (by kernel_rfl) ?_;refine Nx [4,5,6,8,11,12] ?_;refine Qd<|ZrM ?_
 refine Zj yi_neq (fun c9=>?_) fun c9=>?_
 ·refine Zn [4,5,6,8,11,12,33] ?_;refine Zcf [4,5,6,8,11] ?_;refine XRu 5 [4,5,6] ?_;have u:=Un u hw8;have hz:=c9;obtain ⟨x1,x2⟩:=add_ok (a:=(trAs Ls)) (l:=L) hz;exact eg_ret_tmp3 rfl rfl rfl rfl ⟨_,rfl,s8,by rw [x1,hz];rfl,m8,u⟩
 refine Znt [4,5,6,8,11,12,33] ?_;refine XRu 4 [8,11,4,5,6] ?_;refine Qc ?_;have u:=Un u hw8;obtain ⟨x1,x2⟩:=add_no (a:=(trAs Ls)) (l:=L) c9;exact eg_ret_tmp3 rfl rfl rfl rfl ⟨_,rfl,nilS,by rw [x1];rfl,(RwNd.nil _ _).cast x2.symm,u⟩
theorem rem_any [Lo] {W:World} {B:Nat} {s:SlV} {Ls:List Nd} (h:RwNd W B s Ls) (i:Int) (hB:B<=W.heap.size) (rg:Tt W):Calls prog 78 #[s.v,nv i] W fun e W'=>∃ v,e=.returned v/\∃ s':SlV,v=.tuple #[s'.v,nv (hadE (trAs Ls) i)]/\RwNd W' W'.heap.size s' (remL (trAs Ls) i)/\Bw W W':=by
 refine Ze func78 ntmps78 ?_;have u:=Br W;have h:=h.more hB;refine XRn 2 [0,1,4,5] ?_;refine Zr<|lg_bslice (el:=138) (z:=.nilFunc) (cs:=#[((⟨125,[]⟩:FV).v)]) (by kernel_rfl) (by kernel_rfl) (by decide) (by decide) rfl rfl (by kernel_rfl) rfl rfl (by decide) fun b1 w1 n1=>?_
 have ⟨r1,k1,z1,lt1⟩:=n1.f;refine Za (y_build (cs:=#[(⟨some ⟨b1,0,none⟩,1,1⟩:SlV).v,((⟨126,[]⟩:FV).v)])) ?_;refine Xa 2 ?_;refine Za (y_build (cs:=LfV.zero.cs Lf.zero)) ?_;refine Za (y_build (cs:=(⟨s,LfV.zero⟩:SqV).cs (⟨Ls,i,Lf.zero⟩:Sq))) ?_;have u:=Un u n1.below;have h:=h.below (Bm n1.below);have hsp:IsSq w1 w1.heap.size (⟨s,LfV.zero⟩:SqV) (⟨Ls,i,Lf.zero⟩:Sq):=(show IsSq w1 w1.heap.size (⟨s,LfV.zero⟩:SqV) (⟨Ls,i,Lf.zero⟩:Sq) from ⟨(h.mW w1),((IsLf.zero _ 0).mW w1)⟩);refine Zc ((by have z:=at_any (fs:=[⟨125,[]⟩]) (es:=[hadE (trAs Ls) i]) (gv:=⟨126,[]⟩) (E:=0) (Ls:=trimL (clearL (trAs Ls) i)) hsp Lr r1 (Nat.le_of_ble_eq_true rfl) (asks_cons (by unfold okF;kernel_rfl) (fun w b=>hadP_any (hsp.below b) b.size) asks_nil) (by unfold okF;kernel_rfl) (fun hz w b=>(by have z1:=first_one.symm.trans hz;obtain ⟨z3,_⟩:=hadE_ok z1;have hti:=leaves_tr z3.1 z3.2;have hta:=trAs_ok hti;rw [hta] at z3 ⊢;exact removed_any (hsp.below b) b.size hti z3 (Tt.up b (Tt.up u rg))));rwa [rem_at.1,rem_at.2] at z)) rfl rfl ?_;rintro _ w2 ⟨s2,rfl,m2,hw2⟩;have zw2:=hw2.size;refine Xu 4 [4,5] ?_;exact eg_ret_tmp2 rfl rfl rfl ⟨_,rfl,_,rfl,m2,Un u hw2⟩
theorem cha_any [Lo] {W:World} {B:Nat} {s:SlV} {Ls:List Nd} (h:RwNd W B s Ls) (i:Int) {l:LfV} {L:Lf} (hl:IsLf W B l L) (hB:B<=W.heap.size) (rg:Tt W):Calls prog 79 #[s.v,nv i,.agg (l.cs L)] W fun e W'=>∃ v,e=.returned v/\∃ s':SlV,v=.tuple #[s'.v,nv (chaE (trAs Ls) i L)]/\RwNd W' W'.heap.size s' (chaL (trAs Ls) i L)/\Bw W W':=by
 refine Ze func79 ntmps79 ?_;have u:=Br W;have h:=h.more hB;have hl:=hl.more hB;refine Zr<|Zb fun b1 w1 n1=>?_
 have ⟨r1,k1,z1,lt1⟩:=n1.f;refine Xn 2 [0,1,5,6,7] ?_;refine Qd<|cg_held (by kernel_rfl) fun W2 eW2=>?_
 have dW2:=below_drew _ _ eW2;have zW2:=size_drew _ _ eW2;clear eW2;refine Zh 3 (fun q hq=>y_move rfl rfl) ?_;refine Zh 4 (fun q hq=>y_move rfl rfl) ?_;have r1:=Rb dW2 r1;refine Zh 5 (fun q hq=>y_loadA (Rb hq r1) (by kernel_rfl) (by kernel_rfl) rfl rfl) ?_;refine Zh 6 (fun q hq=>y_build (cs:=(⟨s,l⟩:SqV).cs (⟨Ls,i,L⟩:Sq)) rfl rfl (by kernel_rfl)) ?_;refine Zo 0 ?_;refine Zd (from_any 2 _) ?_;rintro _ w3 ⟨b3,rfl,r3,lb3,hw3⟩;have zw3:=hw3.size;have lt3:=r3.lt;refine hg_next hw3 ?_;refine hg_up hw3 ?_;refine Zo 1 ?_;refine lg_bslice (el:=138) (z:=.nilFunc) (cs:=#[((⟨125,[]⟩:FV).v),((⟨180,[pv b3 0]⟩:FV).v)]) (by kernel_rfl) (by kernel_rfl) (by decide) (by decide) rfl rfl (by kernel_rfl) rfl rfl (by decide) fun b4 w4 n4=>?_;have ⟨r4,k4,z4,lt4⟩:=n4.f;refine hg_next n4.below ?_;refine hg_up n4.below ?_;refine Zh 2 (fun q hq=>y_build (cs:=#[(⟨some ⟨b4,0,none⟩,2,2⟩:SlV).v,((⟨127,[]⟩:FV).v)]) rfl rfl (by kernel_rfl)) ?_;have r3:=n4.keep r3;have u:=Un (Un (Un (Un u n1.below) dW2) hw3) n4.below;have h:=(((h.below (Bm n1.below)).below (Bm dW2)).below (Bm hw3)).below (Bm n4.below);have hl:=(((hl.below (Bm n1.below)).below (Bm dW2)).below (Bm hw3)).below (Bm n4.below);refine Zo 7 ?_;have hsp:IsSq w4 w4.heap.size (⟨s,l⟩:SqV) (⟨Ls,i,L⟩:Sq):=(show IsSq w4 w4.heap.size (⟨s,l⟩:SqV) (⟨Ls,i,L⟩:Sq) from ⟨(h.mW w4),(hl.mW w4)⟩);refine Zc ((by have z:=at_any (fs:=[⟨125,[]⟩,⟨180,[pv b3 0]⟩]) (es:=[hadE (trAs Ls) i,srcE L 2]) (gv:=⟨127,[]⟩) (E:=0) (Ls:=laidL (clearL (trAs Ls) i) i L) hsp Lr r4 (Nat.le_of_ble_eq_true rfl) (asks_cons (by unfold okF;kernel_rfl) (fun w b=>hadP_any (hsp.below b) b.size) (asks_cons (by unfold okF;kernel_rfl) (fun w b=>from1_any (hsp.below b) b.size (Rb b r3)) asks_nil)) (by unfold okF;kernel_rfl) (fun hz w b=>(by obtain ⟨z1,z2⟩:=first_zero hz;obtain ⟨z3,_⟩:=hadE_ok z1;have hti:=leaves_tr z3.1 z3.2;have hta:=trAs_ok hti;rw [hta] at z3 ⊢;exact changed_any (hsp.below b) b.size hti z3 (srcE_ok z2).1 (Tt.up b (Tt.up u rg))));rwa [cha_at.1,cha_at.2] at z)) rfl rfl ?_;rintro _ w5 ⟨s5,rfl,m5,hw5⟩;have zw5:=hw5.size;refine hg_next hw5 ?_;refine hg_up hw5 ?_;refine hg_takev 8 (by rfl) Wn rfl (by decide) (by kernel_rfl) (by kernel_rfl) (by kernel_rfl) (fun _ _ _ h=>h) (Below.refl _ _) (v_extract rfl rfl rfl) ?_;refine hg_takev 9 (by rfl) Wn rfl (by decide) (by kernel_rfl) (by kernel_rfl) (by kernel_rfl) (fun _ _ _ h=>h) (Below.refl _ _) (v_extract rfl rfl rfl) ?_;refine Zh 10 (fun q hq=>y_assign rfl rfl) ?_;refine Zh 11 (fun q hq=>y_assign rfl rfl) ?_;refine hg_done (by kernel_rfl) ?_;refine Nx [6,7] ?_;refine cg_ret ?_;exact eg_ret_tmp2 rfl rfl rfl ⟨_,rfl,_,rfl,m5,Un u hw5⟩
theorem com_any [Lo] {W:World} {B:Nat} {s:SlV} {Ls:List Nd} (h:RwNd W B s Ls) (i:Int) {l:LfV} {L:Lf} (hl:IsLf W B l L) {r:SlV} {Ks:List (List Int)} (hk:RwOc W B r Ks) (hB:B<=W.heap.size) (rg:Tt W):Calls prog 80 #[s.v,nv i,.agg (l.cs L),r.v] W fun e W'=>∃ v,e=.returned v/\∃ s':SlV,v=.tuple #[s'.v,nv (comE (trAs Ls) i L Ks)]/\RwNd W' W'.heap.size s' (comL (trAs Ls) i L Ks)/\Bw W W':=by
 refine Ze func80 ntmps80 ?_;have u:=Br W;have h:=h.more hB;have hl:=hl.more hB;have hk:=hk.more hB;refine Zr<|Zb fun b1 w1 n1=>?_
 have ⟨r1,k1,z1,lt1⟩:=n1.f;refine Xn 2 [0,1,3,6,8,9] ?_;refine Qd<|cg_held (by kernel_rfl) fun W2 eW2=>?_
 have dW2:=below_drew _ _ eW2;have zW2:=size_drew _ _ eW2;clear eW2;refine Zh 2 (fun q hq=>y_move rfl rfl) ?_;refine Zh 5 (fun q hq=>y_move rfl rfl) ?_;refine Zh 6 (fun q hq=>y_move rfl rfl) ?_;have r1:=Rb dW2 r1;refine Zh 7 (fun q hq=>y_loadA (Rb hq r1) (by kernel_rfl) (by kernel_rfl) rfl rfl) ?_;refine Zh 8 (fun q hq=>y_build (cs:=(⟨s,l⟩:SqV).cs (⟨Ls,i,L⟩:Sq)) rfl rfl (by kernel_rfl)) ?_;refine Zo 0 ?_;refine Zd (from_any 3 _) ?_;rintro _ w3 ⟨b3,rfl,r3,lb3,hw3⟩;have zw3:=hw3.size;have lt3:=r3.lt;refine hg_next hw3 ?_;refine hg_up hw3 ?_;refine hg_two 1 3 (by rfl) (by rfl) (by kernel_rfl) Wn Wn ?_ ?_
 ·refine lg_bslice (el:=138) (z:=.nilFunc) (cs:=#[((⟨125,[]⟩:FV).v),((⟨180,[pv b3 0]⟩:FV).v)]) (by kernel_rfl) (by kernel_rfl) (by decide) (by decide) rfl rfl (by kernel_rfl) rfl rfl (by decide) fun b4 w4 n4=>?_;have ⟨r4,k4,z4,lt4⟩:=n4.f;refine hg_next n4.below ?_;refine hg_up n4.below ?_;have hk:=(((hk.below (Bm n1.below)).below (Bm dW2)).below (Bm hw3)).below (Bm n4.below);refine Zo 3 ?_;refine Zd (committed_any (hk.mW w4) Lr) ?_;rintro _ w5 ⟨b5,rfl,r5,lb5,hw5⟩;have zw5:=hw5.size;have lt5:=r5.lt;refine hg_next hw5 ?_;refine hg_up hw5 ?_;refine Zh 4 (fun q hq=>y_build (cs:=#[(⟨some ⟨b4,0,none⟩,2,2⟩:SlV).v,((⟨187,[pv b5 0]⟩:FV).v)]) rfl rfl (by kernel_rfl)) ?_;have r3:=Rb hw5 (n4.keep r3);have hk:=hk.below (Bm hw5);have u:=Un (Un (Un (Un (Un u n1.below) dW2) hw3) n4.below) hw5;have h:=((((h.below (Bm n1.below)).below (Bm dW2)).below (Bm hw3)).below (Bm n4.below)).below (Bm hw5);have hl:=((((hl.below (Bm n1.below)).below (Bm dW2)).below (Bm hw3)).below (Bm n4.below)).below (Bm hw5);have r4:=Rb hw5 r4;refine Zo 9 ?_;have hsp:IsSq w5 w5.heap.size (⟨s,l⟩:SqV) (⟨Ls,i,L⟩:Sq):=(show IsSq w5 w5.heap.size (⟨s,l⟩:SqV) (⟨Ls,i,L⟩:Sq) from ⟨(h.mW w5),(hl.mW w5)⟩);refine Zc ((by have z:=at_any (fs:=[⟨125,[]⟩,⟨180,[pv b3 0]⟩]) (es:=[hadE (trAs Ls) i,srcE L 3]) (gv:=⟨187,[pv b5 0]⟩) (E:=comX (trAs Ls) i L Ks) (Ls:=comY (trAs Ls) i L Ks) hsp Lr r4 (Nat.le_of_ble_eq_true rfl) (asks_cons (by unfold okF;kernel_rfl) (fun w b=>hadP_any (hsp.below b) b.size) (asks_cons (by unfold okF;kernel_rfl) (fun w b=>from1_any (hsp.below b) b.size (Rb b r3)) asks_nil)) (by unfold okF;kernel_rfl) (fun hz w b=>(by obtain ⟨z1,z2⟩:=first_zero hz;obtain ⟨z3,_⟩:=hadE_ok z1;have hti:=leaves_tr z3.1 z3.2;have hta:=trAs_ok hti;rw [hta] at z3 ⊢;exact committed1_any (hsp.below b) b.size hti z3 (srcE_ok z2).1 (((hk.mW w5)).below b) (Rb b r5) (Tt.up b (Tt.up u rg))));rwa [com_at.1,com_at.2] at z)) rfl rfl ?_;rintro _ w6 ⟨s6,rfl,m6,hw6⟩;have zw6:=hw6.size;refine hg_next hw6 ?_;refine hg_up hw6 ?_;refine hg_takev 10 (by rfl) Wn rfl (by decide) (by kernel_rfl) (by kernel_rfl) (by kernel_rfl) (fun _ _ _ h=>h) (Below.refl _ _) (v_extract rfl rfl rfl) ?_;refine hg_takev 11 (by rfl) Wn rfl (by decide) (by kernel_rfl) (by kernel_rfl) (by kernel_rfl) (fun _ _ _ h=>h) (Below.refl _ _) (v_extract rfl rfl rfl) ?_;refine Zh 12 (fun q hq=>y_assign rfl rfl) ?_;refine Zh 13 (fun q hq=>y_assign rfl rfl) ?_;refine hg_done (by kernel_rfl) ?_;refine Nx [8,9] ?_;refine cg_ret ?_;exact eg_ret_tmp2 rfl rfl rfl ⟨_,rfl,_,rfl,m6,Un u hw6⟩
 have hk:=((hk.below (Bm n1.below)).below (Bm dW2)).below (Bm hw3);refine Zd (committed_any (hk.mW w3) Lr) ?_;rintro _ w7 ⟨b7,rfl,r7,lb7,hw7⟩;have zw7:=hw7.size;have lt7:=r7.lt;refine hg_next hw7 ?_;refine hg_up hw7 ?_;refine Zo 1 ?_;refine lg_bslice (el:=138) (z:=.nilFunc) (cs:=#[((⟨125,[]⟩:FV).v),((⟨180,[pv b3 0]⟩:FV).v)]) (by kernel_rfl) (by kernel_rfl) (by decide) (by decide) rfl rfl (by kernel_rfl) rfl rfl (by decide) fun b8 w8 n8=>?_;have ⟨r8,k8,z8,lt8⟩:=n8.f;refine hg_next n8.below ?_;refine hg_up n8.below ?_;refine Zh 4 (fun q hq=>y_build (cs:=#[(⟨some ⟨b8,0,none⟩,2,2⟩:SlV).v,((⟨187,[pv b7 0]⟩:FV).v)]) rfl rfl (by kernel_rfl)) ?_;have r3:=n8.keep (Rb hw7 r3);have hk:=(hk.below (Bm hw7)).below (Bm n8.below);have r7:=n8.keep r7;have u:=Un (Un (Un (Un (Un u n1.below) dW2) hw3) hw7) n8.below;have h:=((((h.below (Bm n1.below)).below (Bm dW2)).below (Bm hw3)).below (Bm hw7)).below (Bm n8.below);have hl:=((((hl.below (Bm n1.below)).below (Bm dW2)).below (Bm hw3)).below (Bm hw7)).below (Bm n8.below);refine Zo 9 ?_;have hsp:IsSq w8 w8.heap.size (⟨s,l⟩:SqV) (⟨Ls,i,L⟩:Sq):=(show IsSq w8 w8.heap.size (⟨s,l⟩:SqV) (⟨Ls,i,L⟩:Sq) from ⟨(h.mW w8),(hl.mW w8)⟩);refine Zc ((by have z:=at_any (fs:=[⟨125,[]⟩,⟨180,[pv b3 0]⟩]) (es:=[hadE (trAs Ls) i,srcE L 3]) (gv:=⟨187,[pv b7 0]⟩) (E:=comX (trAs Ls) i L Ks) (Ls:=comY (trAs Ls) i L Ks) hsp Lr r8 (Nat.le_of_ble_eq_true rfl) (asks_cons (by unfold okF;kernel_rfl) (fun w b=>hadP_any (hsp.below b) b.size) (asks_cons (by unfold okF;kernel_rfl) (fun w b=>from1_any (hsp.below b) b.size (Rb b r3)) asks_nil)) (by unfold okF;kernel_rfl) (fun hz w b=>(by obtain ⟨z1,z2⟩:=first_zero hz;obtain ⟨z3,_⟩:=hadE_ok z1;have hti:=leaves_tr z3.1 z3.2;have hta:=trAs_ok hti;rw [hta] at z3 ⊢;exact committed1_any (hsp.below b) b.size hti z3 (srcE_ok z2).1 (((hk.mW w8)).below b) (Rb b r7) (Tt.up b (Tt.up u rg))));rwa [com_at.1,com_at.2] at z)) rfl rfl ?_;rintro _ w9 ⟨s9,rfl,m9,hw9⟩;have zw9:=hw9.size;refine hg_next hw9 ?_;refine hg_up hw9 ?_;refine hg_takev 10 (by rfl) Wn rfl (by decide) (by kernel_rfl) (by kernel_rfl) (by kernel_rfl) (fun _ _ _ h=>h) (Below.refl _ _) (v_extract rfl rfl rfl) ?_;refine hg_takev 11 (by rfl) Wn rfl (by decide) (by kernel_rfl) (by kernel_rfl) (by kernel_rfl) (fun _ _ _ h=>h) (Below.refl _ _) (v_extract rfl rfl rfl) ?_;refine Zh 12 (fun q hq=>y_assign rfl rfl) ?_;refine Zh 13 (fun q hq=>y_assign rfl rfl) ?_;refine hg_done (by kernel_rfl) ?_;refine Nx [8,9] ?_;refine cg_ret ?_;exact eg_ret_tmp2 rfl rfl rfl ⟨_,rfl,_,rfl,m9,Un u hw9⟩
end Go.Proofs.YtjjdcnkbibkmkaaGreatDoor
