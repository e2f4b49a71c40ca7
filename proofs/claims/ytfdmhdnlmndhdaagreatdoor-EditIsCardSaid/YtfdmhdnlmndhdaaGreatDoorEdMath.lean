/-
  What may be done to a tree: pure.
-/
import Derived.Test.YtfdmhdnlmndhdaaGreatDoorChFacts
import Derived.Test.YtfdmhdnlmndhdaaGreatDoorKitD
namespace Go.Proofs.YtfdmhdnlmndhdaaGreatDoor
open Go.ChangeShapes Go.WideShapes Go.ChangeAt Go.RowKit
set_option linter.unusedVariables false

abbrev leafN (l:Lf):Nd:=⟨1,l,Pn.zero⟩
/-- May a leaf be laid that is to come from somewhere? -/
def srcE (l:Lf) (k:Int):Int:=if ¬lfCheck l=0 then lfCheck l else if l.src=k then 0 else 7
/-- Is there such a leaf? -/
def hadE (a:List Nd) (i:Int):Int:=if ¬(0≤i∧i<leavesA a) then 3 else if (atN a (2*i).toNat).kind=0 then 9 else 0
/-- A node above a leaf that it does not know. -/
def joinN (i:Int) (n:Nd):Nd:=if n.kind=2 then ⟨n.kind,n.leaf,⟨n.inner.enc,n.inner.hash,joinK n.inner.unm i⟩⟩ else n
def joinW (i:Int):List Int→List Nd→List Nd
 | [],a=>a
 | d::ds,a=>joinW i ds (a.set d.toNat (joinN i (atN a d.toNat)))
def laidL (a:List Nd) (i:Int) (l:Lf):List Nd:=a.set (2*i).toNat (leafN l)
def roomE (a:List Nd):Int:=if freeA a=-1 then growE a else 0
def roomL (a:List Nd):List Nd:=if freeA a=-1 then growL a else a
def addE (a:List Nd) (l:Lf):Int:=if srcE l 1=0 then roomE a else srcE l 1
def addI (a:List Nd) (l:Lf):Int:=if addE a l=0 then freeA (roomL a) else -1
def addL (a:List Nd) (l:Lf):List Nd:=if addE a l=0 then laidL (joinW (freeA (roomL a)) (dirI (2*freeA (roomL a)) (roomL a).length) (roomL a)) (freeA (roomL a)) l else []
def remL (a:List Nd) (i:Int):List Nd:=if hadE a i=0 then trimL (clearL a i) else []
def chaE (a:List Nd) (i:Int) (l:Lf):Int:=if hadE a i=0 then srcE l 2 else hadE a i
def chaL (a:List Nd) (i:Int) (l:Lf):List Nd:=if chaE a i l=0 then laidL (clearL a i) i l else []
def comE (a:List Nd) (i:Int) (l:Lf) (ks:List (List Int)):Int :=
 if ¬hadE a i=0 then hadE a i else if ¬srcE l 3=0 then srcE l 3 else if ¬planE a i ks=0 then planE a i ks else if l.par=planH a i ks then 0 else 12
def comL (a:List Nd) (i:Int) (l:Lf) (ks:List (List Int)):List Nd:=if comE a i l ks=0 then laidL (planP a i ks) i l else []

theorem leavesA_eq (a:List Nd):leavesA a=(a.length+1) / 2:=rfl
theorem srcE_ok {l:Lf} {k:Int} (h:srcE l k=0):lfCheck l=0∧l.src=k:=by
 unfold srcE at h
 split at h
 ·rename_i q
  exact absurd h q
 rename_i q
 split at h
 ·rename_i z
  exact ⟨Classical.not_not.1 q,z⟩
 exact absurd h (by decide)
theorem srcE_bad {l:Lf} {k:Int} (h:¬lfCheck l=0):srcE l k=lfCheck l:=if_pos h
theorem srcE_src {l:Lf} {k:Int} (h:lfCheck l=0) (q:¬l.src=k):srcE l k=7:=by
 unfold srcE
 rw [if_neg (fun z=>z h),if_neg q]
theorem srcE_is {l:Lf} {k:Int} (h:lfCheck l=0) (q:l.src=k):srcE l k=0:=by
 unfold srcE
 rw [if_neg (fun z=>z h),if_pos q]
theorem hadE_no {a:List Nd} {i:Int} (h:¬(0≤i∧i<leavesA a)):hadE a i=3:=if_pos h
theorem hadE_blank {a:List Nd} {i:Int} (h:0≤i∧i<leavesA a) (q:(atN a (2*i).toNat).kind=0):hadE a i=9:=by
 unfold hadE
 rw [if_neg (fun z=>z h),if_pos q]
theorem hadE_is {a:List Nd} {i:Int} (h:0≤i∧i<leavesA a) (q:¬(atN a (2*i).toNat).kind=0):hadE a i=0:=by
 unfold hadE
 rw [if_neg (fun z=>z h),if_neg q]
theorem hadE_ok {a:List Nd} {i:Int} (h:hadE a i=0):(0≤i∧i<leavesA a)∧¬(atN a (2*i).toNat).kind=0:=by
 unfold hadE at h
 split at h
 ·exact absurd h (by decide)
 rename_i q
 split at h
 ·exact absurd h (by decide)
 rename_i z
 exact ⟨Classical.not_not.1 q,z⟩
theorem had_node {a:List Nd} {i:Int} (ha:trIs a) (h:hadE a i=0):isN (2*i) (a.length:Int)∧(atN a (2*i).toNat).kind=1:=by
 obtain ⟨h1,h2⟩:=hadE_ok h
 have h3:=leavesA_eq a
 have h4:=trIs_len ha
 have hN:isN (2*i) (a.length:Int):=isN_of ha (by omega) (by omega)
 have:=ok_kind (trIs_ok ha (2*i).toNat)
 exact ⟨hN,by omega⟩
-- joined
theorem joinK_again {l:List Int} {i:Int}:joinK (joinK l i) i=joinK l i:=joinK_eq (joinK_rising l i) fun x=>by
 rw [joinK_mem]
 exact ⟨fun q=>.inl (q.elim .inl .inr),fun q=>q.elim id .inr⟩
theorem joinN_kind (i:Int) (n:Nd):(joinN i n).kind=n.kind:=by
 unfold joinN
 split<;>rfl
theorem joinN_again (i:Int) (n:Nd):joinN i (joinN i n)=joinN i n:=by
 by_cases h:n.kind=2
 ·have e:joinN i n=⟨n.kind,n.leaf,⟨n.inner.enc,n.inner.hash,joinK n.inner.unm i⟩⟩:=if_pos h
  rw [e]
  have e2:joinN i ⟨n.kind,n.leaf,⟨n.inner.enc,n.inner.hash,joinK n.inner.unm i⟩⟩=⟨n.kind,n.leaf,⟨n.inner.enc,n.inner.hash,joinK (joinK n.inner.unm i) i⟩⟩:=if_pos h
  rw [e2,joinK_again]
 have e:joinN i n=n:=if_neg h
 rw [e,e]
theorem joinN_zero (i:Int):joinN i Nd.zero=Nd.zero:=if_neg (by decide)
theorem joinW_len (i:Int):∀ (ds:List Int) (a:List Nd),(joinW i ds a).length=a.length
 | [],_=>rfl
 | d::ds,a=>by rw [joinW,joinW_len i ds,List.length_set]
theorem joinW_at (i:Int):∀ (ds:List Int) (a:List Nd) (j:Nat),(∀ d∈ds,0≤d)→atN (joinW i ds a) j=if (j:Int)∈ds then joinN i (atN a j) else atN a j
 | [],a,j,_=>by rw [joinW,if_neg (by simp)]
 | d::ds,a,j,h=>by
  have hd:=h d (by simp)
  have e:atN (a.set d.toNat (joinN i (atN a d.toNat))) j=if j=d.toNat then joinN i (atN a j) else atN a j:=by
   by_cases q:d.toNat<a.length
   ·rw [atN_set q]
    by_cases z:j=d.toNat
    ·rw [if_pos z,if_pos z,z]
    rw [if_neg z,if_neg z]
   rw [List.set_eq_of_length_le (by omega)]
   by_cases z:j=d.toNat
   ·rw [if_pos z,atN_none (by omega),joinN_zero]
   rw [if_neg z]
  rw [joinW,joinW_at i ds _ j (fun q hq=>h q (by simp [hq])),e]
  by_cases z:j=d.toNat
  ·rw [if_pos z,if_pos (show (j:Int)∈d::ds by rw [List.mem_cons];left;omega),joinN_again]
   split<;>rfl
  rw [if_neg z]
  by_cases y:(j:Int)∈ds
  ·rw [if_pos y,if_pos (by simp [y])]
  rw [if_neg y,if_neg (by
   rw [List.mem_cons]
   rintro (q | q)
   ·omega
   exact y q)]
theorem joinW_snoc (i d:Int):∀ (ds:List Int) (a:List Nd),joinW i (ds++[d]) a=(joinW i ds a).set d.toNat (joinN i (atN (joinW i ds a) d.toNat))
 | [],_=>rfl
 | c::ds,a=>by rw [List.cons_append,joinW,joinW_snoc i d ds,joinW]
theorem joinW_take {i:Int} {ds:List Int} {t:Nat} {a:List Nd} (h:t<ds.length):(joinW i (ds.take t) a).set (ds.getD t 0).toNat (joinN i (atN (joinW i (ds.take t) a) (ds.getD t 0).toNat))=joinW i (ds.take (t+1)) a:=by
 rw [take_succ_getD ds t h,joinW_snoc]
theorem rise_len {l:List Int} (h:Rising l) (b:∀ x∈l,0≤x∧x<64):l.length≤64:=by
 have key:∀ (k:Nat) (l:List Int),Rising l→(∀ x∈l,(64:Int)-k≤x∧x<64)→l.length≤k:=fun k=>by
  induction k with
  | zero =>
   intro l _ b
   cases l with
   | nil=>exact Nat.le_refl _
   | cons x r =>
    have:=b x (by simp)
    omega
  | succ k ih =>
   intro l h b
   cases l with
   | nil=>exact Nat.zero_le _
   | cons x r =>
    have h1:=List.pairwise_cons.1 h
    have hx:=b x (by simp)
    have:=ih r h1.2 fun y hy=>by
     have:=h1.1 y hy
     have:=b y (by simp [hy])
     omega
    simp only [List.length_cons]
    omega
 exact key 64 l h fun x hx=>by have:=b x hx;omega
theorem nd_ok_inner {n:Nd} (h:ndCheck n=0) (k:n.kind=2):pnCheck n.inner=0∧n.leaf=Lf.zero:=by
 rcases nd_cases h with e | e | e
 ·rw [e] at k
  exact absurd k (by decide)
 ·omega
 exact ⟨e.2.2,e.2.1⟩
theorem joinN_ok {i:Int} {n:Nd} (h0:0≤i) (h1:i<64) (h:ndCheck n=0):ndCheck (joinN i n)=0:=by
 by_cases k:n.kind=2
 ·obtain ⟨hp,hl⟩:=nd_ok_inner h k
  obtain ⟨a,b,c,d⟩:=pnCheck_ok hp
  obtain ⟨e,f⟩:=pnCheck_nums hp
  have hb:∀ x∈joinK n.inner.unm i,0≤x∧x<64:=fun x hx=>by
   rcases joinK_mem.1 hx with q | q
   ·exact e x q
   omega
  have e2:joinN i n=⟨n.kind,n.leaf,⟨n.inner.enc,n.inner.hash,joinK n.inner.unm i⟩⟩:=if_pos k
  rw [e2]
  exact nd_ok2 k hl (pnCheck_mk a b c (rise_len (joinK_rising _ _) hb) hb (joinK_rising _ _))
 rw [show joinN i n=n from if_neg k]
 exact h
theorem joinW_is {i:Int} (h0:0≤i) (h1:i<64):∀ (ds:List Int) {a:List Nd},trIs a→trIs (joinW i ds a)
 | [],_,h=>h
 | d::ds,a,h=>joinW_is h0 h1 ds (trIs_set h ⟨joinN_ok h0 h1 (trIs_ok h _).1,by rw [joinN_kind];exact (trIs_ok h _).2⟩)
-- laid
theorem leaf_ok {l:Lf} (h:lfCheck l=0):ndCheck (leafN l)=0:=nd_ok1 rfl rfl h
theorem leaf_at {l:Lf} {i:Int} (h:lfCheck l=0) (h0:0≤i):okAt (2*i).toNat (leafN l):=⟨leaf_ok h,.inr (show (1:Int)≠2 by decide),.inl (by omega)⟩
theorem laid_len (a:List Nd) (i:Int) (l:Lf):(laidL a i l).length=a.length:=List.length_set ..
theorem laid_is {a:List Nd} {i:Int} {l:Lf} (ha:trIs a) (h:lfCheck l=0) (h0:0≤i):trIs (laidL a i l):=trIs_set ha (leaf_at h h0)
theorem laid_set {a:List Nd} {i:Int} {l:Lf} (ha:trIs a) (hN:isN (2*i) (a.length:Int)) (h:lfCheck l=0):setE a (2*i) (leafN l)=0∧setL a (2*i) (leafN l)=laidL a i l:=by
 have h0:=hN.le
 have e:setE a (2*i) (leafN l)=0:=setE_ok (by rw [trAs_ok ha];exact hN) (leaf_ok h) (leaf_at h (by omega)).2
 exact ⟨e,by rw [setL_ok e,trAs_ok ha];rfl⟩
theorem laid_at {a:List Nd} {i:Int} {l:Lf} {j:Nat} (h:(2*i).toNat<a.length):atN (laidL a i l) j=if j=(2*i).toNat then leafN l else atN a j:=atN_set h
-- cleared
theorem clear_ok {a:List Nd} {i:Int} (ha:trIs a) (h:0≤i∧i<leavesA a):clearE a i=0∧clearL a i=clr (dirI (2*i) (a.length:Int)) (a.set (2*i).toNat Nd.zero):=by
 have e:clearE a i=0:=by
  unfold clearE
  rw [trAs_ok ha]
  exact if_neg (by omega)
 exact ⟨e,by rw [clearL_ok e,trAs_ok ha]⟩
theorem clear_is {a:List Nd} {i:Int} (ha:trIs a) (h:0≤i∧i<leavesA a):trIs (clearL a i)∧(clearL a i).length=a.length:=by
 rw [(clear_ok ha h).2]
 exact ⟨clr_is _ (trIs_set ha (ok_zero _)),by rw [clr_len,List.length_set]⟩
theorem dir_all {x w:Int} (h:isN x w):∀ d∈dirI x w,0≤d∧d<w∧d % 2=1∧isN d w:=fin2 (p:=fun x w=>∀ d∈dirI x w,0≤d∧d<w∧d % 2=1∧isN d w) (by kernel_rfl) h
-- room
theorem room_yes {a:List Nd} (h:¬freeA a=-1):roomE a=0∧roomL a=a:=⟨if_neg h,if_neg h⟩
theorem room_no {a:List Nd} (h:freeA a=-1):roomE a=growE a∧roomL a=growL a:=⟨if_pos h,if_pos h⟩
theorem room_is {a:List Nd} (ha:trIs a):trIs (roomL a):=by
 unfold roomL
 split
 ·exact trIs_growL a
 exact ha
/-- Of a tree without a blank leaf what has grown has its first one behind. -/
theorem free_grown {a:List Nd} (ha:trIs a) (h:freeA a=-1) (g:growE a=0):freeA (growL a)=(leavesA a:Int):=by
 obtain ⟨h1,h2,h3⟩:=grown ha g
 have e1:=leavesA_eq a
 have e2:=leavesA_eq (growL a)
 have hl:=trIs_len ha
 refine freeA_one (by omega) (by rw [h3,atN_none (by omega)]) fun q hq=>?_
 rw [h3]
 rcases freeA_is a with ⟨_,z⟩ | ⟨k,z,_⟩
 ·exact z q hq
 omega
/-- Where there is room: which leaf, and what stands there. -/
theorem room_ok {a:List Nd} (ha:trIs a) (h:roomE a=0):trIs (roomL a)∧0≤freeA (roomL a)∧freeA (roomL a)<leavesA (roomL a)∧freeA (roomL a)<64∧isN (2*freeA (roomL a)) ((roomL a).length:Int)∧atN (roomL a) (2*freeA (roomL a)).toNat=Nd.zero ∧
  (∀ j,j<a.length→atN (roomL a) j=atN a j)∧(∀ j,a.length≤j→atN (roomL a) j=Nd.zero)∧a.length≤(roomL a).length:=by
 have hr:=room_is ha
 have key:0≤freeA (roomL a)∧(∀ j,atN (roomL a) j=atN a j)∧a.length≤(roomL a).length:=by
  by_cases q:freeA a=-1
  ·rw [(room_no q).1] at h
   obtain ⟨h1,h2,h3⟩:=grown ha h
   rw [(room_no q).2,free_grown ha q h]
   exact ⟨by omega,h3,by omega⟩
  rw [(room_yes q).2]
  have:=(freeA_range a).1
  exact ⟨by omega,fun j=>rfl,Nat.le_refl _⟩
 obtain ⟨k0,k1,k2⟩:=key
 have e2:=leavesA_eq (roomL a)
 have hl:=trIs_len hr
 have h0:=trIs_le hr
 rcases freeA_is (roomL a) with ⟨z,_⟩ | ⟨j,z,z1,z2,_⟩
 ·omega
 refine ⟨hr,k0,by omega,by omega,isN_of hr (by omega) (by omega),?_,fun j _=>k1 j,fun j hj=>by rw [k1,atN_none hj],k2⟩
 rcases nd_cases (trIs_ok hr (2*freeA (roomL a)).toNat).1 with e | e | e
 ·exact e
 ·rw [show (2*freeA (roomL a)).toNat=2*j by omega] at e
  omega
 rw [show (2*freeA (roomL a)).toNat=2*j by omega] at e
 omega
-- what is done
theorem add_ok {a:List Nd} {l:Lf} (h:addE a l=0):addI a l=freeA (roomL a)∧addL a l=laidL (joinW (freeA (roomL a)) (dirI (2*freeA (roomL a)) (roomL a).length) (roomL a)) (freeA (roomL a)) l:=⟨if_pos h,if_pos h⟩
theorem add_no {a:List Nd} {l:Lf} (h:¬addE a l=0):addI a l=-1∧addL a l=[]:=⟨if_neg h,if_neg h⟩
theorem rem_ok {a:List Nd} {i:Int} (h:hadE a i=0):remL a i=trimL (clearL a i):=if_pos h
theorem rem_no {a:List Nd} {i:Int} (h:¬hadE a i=0):remL a i=[]:=if_neg h
theorem chaE_no {a:List Nd} {i:Int} {l:Lf} (h:¬hadE a i=0):chaE a i l=hadE a i:=if_neg h
theorem chaE_yes {a:List Nd} {i:Int} {l:Lf} (h:hadE a i=0):chaE a i l=srcE l 2:=if_pos h
theorem cha_ok {a:List Nd} {i:Int} {l:Lf} (h:chaE a i l=0):chaL a i l=laidL (clearL a i) i l:=if_pos h
theorem cha_no {a:List Nd} {i:Int} {l:Lf} (h:¬chaE a i l=0):chaL a i l=[]:=if_neg h
theorem comE_had {a:List Nd} {i:Int} {l:Lf} {ks:List (List Int)} (h:¬hadE a i=0):comE a i l ks=hadE a i:=if_pos h
theorem comE_src {a:List Nd} {i:Int} {l:Lf} {ks:List (List Int)} (h:hadE a i=0) (q:¬srcE l 3=0):comE a i l ks=srcE l 3:=by
 unfold comE
 rw [if_neg (fun z=>z h),if_pos q]
theorem comE_plan {a:List Nd} {i:Int} {l:Lf} {ks:List (List Int)} (h:hadE a i=0) (q:srcE l 3=0) (p:¬planE a i ks=0):comE a i l ks=planE a i ks:=by
 unfold comE
 rw [if_neg (fun z=>z h),if_neg (fun z=>z q),if_pos p]
theorem comE_hash {a:List Nd} {i:Int} {l:Lf} {ks:List (List Int)} (h:hadE a i=0) (q:srcE l 3=0) (p:planE a i ks=0) (e:¬l.par=planH a i ks):comE a i l ks=12:=by
 unfold comE
 rw [if_neg (fun z=>z h),if_neg (fun z=>z q),if_neg (fun z=>z p),if_neg e]
theorem comE_is {a:List Nd} {i:Int} {l:Lf} {ks:List (List Int)} (h:hadE a i=0) (q:srcE l 3=0) (p:planE a i ks=0) (e:l.par=planH a i ks):comE a i l ks=0:=by
 unfold comE
 rw [if_neg (fun z=>z h),if_neg (fun z=>z q),if_neg (fun z=>z p),if_pos e]
theorem com_ok {a:List Nd} {i:Int} {l:Lf} {ks:List (List Int)} (h:comE a i l ks=0):comL a i l ks=laidL (planP a i ks) i l:=if_pos h
theorem comi_no {a:List Nd} {i:Int} {l:Lf} {ks:List (List Int)} (h:¬comE a i l ks=0):comL a i l ks=[]:=if_neg h
/-- What becomes of a tree with a way that is made. -/
def comX (a:List Nd) (i:Int) (l:Lf) (ks:List (List Int)):Int:=if ¬planE a i ks=0 then planE a i ks else if l.par=planH a i ks then 0 else 12
def comY (a:List Nd) (i:Int) (l:Lf) (ks:List (List Int)):List Nd:=if comX a i l ks=0 then laidL (planP a i ks) i l else []
theorem comX_plan {a:List Nd} {i:Int} {l:Lf} {ks:List (List Int)} (p:¬planE a i ks=0):comX a i l ks=planE a i ks∧comY a i l ks=[]:=by
 have e:comX a i l ks=planE a i ks:=if_pos p
 exact ⟨e,if_neg (by rw [e];exact p)⟩
theorem comX_hash {a:List Nd} {i:Int} {l:Lf} {ks:List (List Int)} (p:planE a i ks=0) (q:¬l.par=planH a i ks):comX a i l ks=12∧comY a i l ks=[]:=by
 have e:comX a i l ks=12:=by
  unfold comX
  rw [if_neg (fun z=>z p),if_neg q]
 exact ⟨e,if_neg (by rw [e];decide)⟩
theorem comX_ok {a:List Nd} {i:Int} {l:Lf} {ks:List (List Int)} (p:planE a i ks=0) (q:l.par=planH a i ks):comX a i l ks=0∧comY a i l ks=laidL (planP a i ks) i l:=by
 have e:comX a i l ks=0:=by
  unfold comX
  rw [if_neg (fun z=>z p),if_pos q]
 exact ⟨e,if_pos e⟩
theorem comE_X {a:List Nd} {i:Int} {l:Lf} {ks:List (List Int)} (h:hadE a i=0) (q:srcE l 3=0):comE a i l ks=comX a i l ks∧comL a i l ks=comY a i l ks:=by
 have e:comE a i l ks=comX a i l ks:=by
  unfold comE comX
  rw [if_neg (fun z=>z h),if_neg (fun z=>z q)]
 exact ⟨e,by unfold comL comY;rw [e]⟩
theorem leaves_tr {a:List Nd} {i:Int} (h0:0≤i) (h1:i<leavesA (trAs a)):trIs a:=by
 refine Classical.byContradiction fun q=>?_
 rw [trAs_no q] at h1
 exact absurd h1 (by show ¬i<((0:Nat):Int);omega)
theorem free_as {a:List Nd} (h:¬freeA (trAs a)=-1):trIs a:=by
 refine Classical.byContradiction fun q=>h ?_
 rw [trAs_no q]
 exact freeA_no fun j hj=>absurd hj (by show ¬j<0;omega)
theorem grow_as (a:List Nd):growL (trAs a)=growL a∧growE (trAs a)=growE a:=by
 unfold growL growE
 rw [trAs_as]
 exact ⟨rfl,rfl⟩
theorem set_atN {a:List Nd} {i:Nat}:a.set i (atN a i)=a:=by
 by_cases h:i<a.length
 ·refine list_atN (by rw [List.length_set]) fun j hj=>?_
  rw [atN_set h]
  split
  ·rename_i e
   rw [e]
  rfl
 rw [List.set_eq_of_length_le (by omega)]
theorem join_yes {i:Int} {ds:List Int} {t:Nat} {a:List Nd} (h:t<ds.length) (k:(atN (joinW i (ds.take t) a) (ds.getD t 0).toNat).kind=2) :
  (joinW i (ds.take t) a).set (ds.getD t 0).toNat ⟨(atN (joinW i (ds.take t) a) (ds.getD t 0).toNat).kind,(atN (joinW i (ds.take t) a) (ds.getD t 0).toNat).leaf,⟨(atN (joinW i (ds.take t) a) (ds.getD t 0).toNat).inner.enc,(atN (joinW i (ds.take t) a) (ds.getD t 0).toNat).inner.hash,joinK (atN (joinW i (ds.take t) a) (ds.getD t 0).toNat).inner.unm i⟩⟩=joinW i (ds.take (t+1)) a:=by
 rw [←joinW_take h,joinN,if_pos k]
theorem join_no {i:Int} {ds:List Int} {t:Nat} {a:List Nd} (h:t<ds.length) (k:¬(atN (joinW i (ds.take t) a) (ds.getD t 0).toNat).kind=2):joinW i (ds.take t) a=joinW i (ds.take (t+1)) a:=by
 rw [←joinW_take h,joinN,if_neg k,set_atN]
theorem addE_src {a:List Nd} {l:Lf} (h:¬srcE l 1=0):addE a l=srcE l 1:=if_neg h
theorem addE_room {a:List Nd} {l:Lf} (h:srcE l 1=0):addE a l=roomE a:=if_pos h
theorem join_laid {a:List Nd} {i:Int} {l:Lf} (hN:isN (2*i) (a.length:Int)):joinW i (dirI (2*i) (a.length:Int)) (laidL a i l)=laidL (joinW i (dirI (2*i) (a.length:Int)) a) i l:=by
 have h0:=hN.le
 refine list_atN (by rw [joinW_len,laid_len,laid_len,joinW_len]) fun j hj=>?_
 rw [joinW_len,laid_len] at hj
 rw [joinW_at _ _ _ _ (fun d hd=>(dir_all hN d hd).1),laid_at (by omega),laid_at (by rw [joinW_len];omega),joinW_at _ _ _ _ (fun d hd=>(dir_all hN d hd).1)]
 by_cases z:j=(2*i).toNat
 ·rw [if_pos z,if_pos z,if_neg]
  intro q
  have:=(dir_all hN _ q).2.2.1
  omega
 rw [if_neg z,if_neg z]
end Go.Proofs.YtfdmhdnlmndhdaaGreatDoor
