/-
  What the statements of layer 14 ask of what is done: pure.
-/
import Derived.Test.YtfdmhdnlmndhdaaGreatDoorEdMath
namespace Go.Proofs.YtfdmhdnlmndhdaaGreatDoor
open Go.ChangeShapes Go.WideShapes Go.ChangeAt Go.RowKit
set_option linter.unusedVariables false

-- a leaf that is added
theorem add_spot {a:List Nd} {l:Lf} (ha:trIs a) (h:addE a l=0):0≤addI a l∧addI a l<64∧2*addI a l<((addL a l).length:Int)∧isN (2*addI a l) ((addL a l).length:Int)∧atN (addL a l) (2*addI a l).toNat=leafN l:=by
 obtain ⟨h1,h2,h3⟩:=addE_ok h
 obtain ⟨r0,r1,r2,r3,r4,_⟩:=room_ok ha h3
 have hl:=addL_len h
 have:=r4.le
 rw [(add_ok h).1,addL_at ha h,if_pos rfl,hl]
 exact ⟨r1,r3,by omega,r4,rfl⟩
theorem add_free {a:List Nd} {l:Lf} (ha:trIs a) (h:addE a l=0):(¬freeA a<0→addI a l=freeA a)∧(freeA a<0→addI a l=((leavesA a:Nat):Int)):=by
 obtain ⟨h1,h2,h3⟩:=addE_ok h
 rw [(add_ok h).1]
 refine ⟨fun q=>by rw [(room_yes (by omega)).2],fun q=>?_⟩
 have hf:freeA a=-1:=by have:=(freeA_range a).1;omega
 obtain ⟨g1,g2⟩:=room_no hf
 rw [g1] at h3
 rw [g2,free_grown ha hf h3]
theorem addE_one {a:List Nd} {l:Lf} (h:¬addE a l=0):¬0<((addL a l).length:Int)∧addI a l=-1:=by
 obtain ⟨x1,x2⟩:=add_no h
 exact ⟨by rw [x2];decide,x1⟩
theorem len_none {a:List Nd} (h:a=[]):¬0<(a.length:Int):=by
 rw [h]
 decide
-- two leaves change
theorem cha_two {a:List Nd} {i k:Int} {l m:Lf} (ha:trIs a) (ne:¬i=k) (h1:chaE a i l=0) (h2:chaE a k m=0):chaE (chaL a i l) k m=0:=by
 obtain ⟨q1,q2⟩:=chaE_ok h2
 obtain ⟨p1,_⟩:=chaE_ok h1
 obtain ⟨hN,hk⟩:=had_node ha q1
 obtain ⟨hM,_⟩:=had_node ha p1
 have hr:=hadE_ok q1
 have hl:=chaL_len ha h1
 have e:hadE (chaL a i l) k=0:=by
  refine hadE_is (by rw [leavesA_eq,hl,←leavesA_eq];exact hr.1) ?_
  have:=hN.le
  have:=hM.le
  rw [chaL_at ha h1,if_neg (by omega),if_neg,hk]
  ·decide
  intro z
  have:=(dir_all hM _ z).2.2.1
  omega
 rw [chaE_yes e]
 exact q2
theorem cha_swap {a:List Nd} {i k:Int} {l m:Lf} (ha:trIs a) (ne:¬i=k) (h1:chaE a i l=0) (h2:chaE a k m=0):chaL (chaL a i l) k m=chaL (chaL a k m) i l∧(chaL (chaL a i l) k m).length=a.length:=by
 have e1:=cha_two ha ne h1 h2
 have e2:=cha_two ha (fun q=>ne q.symm) h2 h1
 have i1:=chaL_is ha i l
 have i2:=chaL_is ha k m
 have l1:=chaL_len ha h1
 have l2:=chaL_len ha h2
 have l3:=chaL_len i1 e1
 have l4:=chaL_len i2 e2
 have hM:=(had_node ha (chaE_ok h1).1).1
 have hN:=(had_node ha (chaE_ok h2).1).1
 have:=hM.le
 have:=hN.le
 refine ⟨list_atN (by omega) fun j hj=>?_,by omega⟩
 rw [chaL_at i1 e1,chaL_at ha h1,chaL_at i2 e2,chaL_at ha h2,l1,l2]
 by_cases z1:j=(2*i).toNat
 ·have z2:¬j=(2*k).toNat:=by omega
  have n1:¬(j:Int)∈dirI (2*k) (a.length:Int):=fun q=>by
   have:=(dir_all hN _ q).2.2.1
   omega
  rw [if_neg z2,if_neg n1,if_pos z1,if_pos z1]
 by_cases z2:j=(2*k).toNat
 ·have n1:¬(j:Int)∈dirI (2*i) (a.length:Int):=fun q=>by
   have:=(dir_all hM _ q).2.2.1
   omega
  rw [if_pos z2,if_neg z1,if_neg n1,if_pos z2]
 rw [if_neg z1,if_neg z2,if_neg z1,if_neg z2]
 split<;>split<;>rfl
-- who is gone
theorem rem_pre {a:List Nd} {i:Int} (ha:trIs a) (h:hadE a i=0):remL a i=(clearL a i).take (remL a i).length∧(remL a i).length≤a.length:=by
 obtain ⟨c1,c2⟩:=clear_is ha (hadE_ok h).1
 have h1:=trimL_take (clearL a i)
 have h2:=trimL_le (clearL a i)
 rw [trAs_ok c1] at h1 h2
 rw [rem_ok h]
 exact ⟨h1,by omega⟩
theorem rem_at_x {a:List Nd} {i:Int} (ha:trIs a) (h:hadE a i=0) {x:Nat} (hx:x<(remL a i).length):atN (remL a i) x=if undI (2*i) (x:Int) a.length then Nd.zero else atN a x:=by
 obtain ⟨h1,h2⟩:=rem_pre ha h
 have hN:=(had_node ha h).1
 have hle:=hN.le
 have hxn:isN (x:Int) (a.length:Int):=isN_of ha (by omega) (by omega)
 rw [h1,atN_take hx,clear_at ha (hadE_ok h).1]
 by_cases u:undI (2*i) (x:Int) a.length
 ·rw [if_pos u,if_pos]
  exact ((und_dir hN hxn).2 u).imp (fun e=>by omega) id
 rw [if_neg u,if_neg]
 intro q
 exact u ((und_dir hN hxn).1 (q.imp (fun e=>by omega) id))
theorem rem_gone {a:List Nd} {i:Int} (ha:trIs a) (h:hadE a i=0):hadE (remL a i) i=3∨hadE (remL a i) i=9:=by
 rcases hadE_val (remL a i) i with e | e
 ·exfalso
  obtain ⟨q1,q2⟩:=hadE_ok e
  have hN:=(had_node ha h).1
  have hle:=hN.le
  have hl:=leavesA_eq (remL a i)
  have hw:=trIs_len (remL_is (a:=a) i)
  have hx:(2*i).toNat<(remL a i).length:=by omega
  have:=rem_at_x ha h hx
  rw [show (((2*i).toNat:Nat):Int)=2*i by omega,if_pos ((und_dir hN hN).1 (.inl rfl))] at this
  rw [this] at q2
  exact q2 rfl
 exact e
theorem rem_trim {a:List Nd} {i:Int} (h:hadE a i=0):trimL (remL a i)=remL a i:=by
 rw [rem_ok h]
 exact trim_twice _
-- who comes and goes
theorem back_had {a:List Nd} {l:Lf} (ha:trIs a) (h:addE a l=0):hadE (addL a l) (addI a l)=0:=by
 obtain ⟨h0,_,h1,h2,h3⟩:=add_spot ha h
 refine hadE_is ⟨h0,by rw [leavesA_eq];omega⟩ ?_
 rw [h3]
 exact show ¬(1:Int)=0 by decide
theorem back_at {a:List Nd} {l:Lf} (ha:trIs a) (h:addE a l=0) {x:Nat} (hx:x<(remL (addL a l) (addI a l)).length):atN (remL (addL a l) (addI a l)) x=if x<a.length∧¬undI (2*addI a l) (x:Int) ((addL a l).length:Int) then atN a x else Nd.zero:=by
 obtain ⟨_,_,h3⟩:=addE_ok h
 obtain ⟨r0,r1,r2,r3,r4,r5,r6,r7,r8⟩:=room_ok ha h3
 have hb:=back_had ha h
 have hN:=(had_node (addL_is ha l) hb).1
 have hle:=hN.le
 have hle2:=(rem_pre (addL_is ha l) hb).2
 have hxn:isN (x:Int) ((addL a l).length:Int):=isN_of (addL_is ha l) (by omega) (by omega)
 rw [rem_at_x (addL_is ha l) hb hx]
 by_cases u:undI (2*addI a l) (x:Int) ((addL a l).length:Int)
 ·rw [if_pos u,if_neg (fun q=>q.2 u)]
 rw [if_neg u]
 obtain ⟨w1,w2⟩:=on_way hN hxn u
 have e1:=(add_ok h).1
 have e2:=addL_len h
 rw [e1,e2] at w2
 rw [addL_at ha h,if_neg (by omega),if_neg w2]
 by_cases z:x<a.length
 ·rw [if_pos ⟨z,u⟩,r6 x z]
 rw [if_neg (fun q=>z q.1),r7 x (by omega)]
theorem same_one {b:List Nd} {x:Nat} {n:Nd} (hx:x<b.length) (h:atN b x=n):trSame ((b.take (x+1)).drop x) [n]:=by
 have e:(b.take (x+1)).drop x=[n]:=by
  rw [List.take_succ_eq_append_getElem hx,List.drop_left' (by rw [List.length_take];omega),←h,atN_some (List.getElem?_eq_getElem hx)]
 rw [e]
 exact tr_same _
-- there is room for sixty-four
def wN (n:Nat):Int:=if n=0 then 0 else if n≤1 then 1 else if n≤2 then 3 else if n≤4 then 7 else if n≤8 then 15 else if n≤16 then 31 else if n≤32 then 63 else 127
theorem wN_le (n:Nat):0≤wN n∧wN n≤127:=by
 unfold wN
 repeat' split
 all_goals omega
/-- The first n leaves are there, and no more, in a tree as great as need be. -/
def fullT (n:Nat) (t:List Nd):Prop:=trIs t∧(t.length:Int)=wN n∧∀ j,j<leavesA t→((atN t (2*j)).kind=0↔n≤j)
theorem full_nil:fullT 0 []:=⟨trIs_nil,rfl,fun j h=>absurd h (Nat.not_lt_zero _)⟩
theorem wN_step {n:Nat} (h:n<64):(2*(n:Int)<wN n∧wN (n+1)=wN n∧0<n)∨(2*(n:Int)=wN n+1∧wN (n+1)=2*wN n+1∧wN n≤63∧0<n)∨(n=0∧wN n=0∧wN (n+1)=1):=by
 have key:∀ n:Nat,n<64→(2*(n:Int)<wN n∧wN (n+1)=wN n∧0<n)∨(2*(n:Int)=wN n+1∧wN (n+1)=2*wN n+1∧wN n≤63∧0<n)∨(n=0∧wN n=0∧wN (n+1)=1):=of_decide_eq_true (by kernel_rfl)
 exact key n h
theorem full_add {n:Nat} {t:List Nd} {l:Lf} (h:fullT n t) (hn:n<64) (hs:srcE l 1=0):addE t l=0∧addI t l=(n:Int)∧fullT (n+1) (addL t l):=by
 obtain ⟨ht,hl,hk⟩:=h
 have hlv:=leavesA_eq t
 have hw:=wN_step hn
 have hlen:=trIs_len ht
 have key:roomE t=0∧freeA (roomL t)=(n:Int)∧((roomL t).length:Int)=wN (n+1):=by
  by_cases q:n<leavesA t
  ·have hf:freeA t=(n:Int):=freeA_one q ((hk n q).2 (Nat.le_refl _)) fun j hj z=>by
    have:=(hk j (by omega)).1 z
    omega
   obtain ⟨e1,e2⟩:=room_yes (a:=t) (by omega)
   rw [e1,e2]
   exact ⟨rfl,hf,by omega⟩
  have hf:freeA t=-1:=freeA_no fun j hj z=>by
   have:=(hk j hj).1 z
   omega
  obtain ⟨e1,e2⟩:=room_no hf
  have hg:growE t=0:=by
   unfold growE
   rw [trAs_ok ht]
   exact if_neg (by omega)
  obtain ⟨g1,g2,g3⟩:=grown ht hg
  rw [e1,e2]
  exact ⟨hg,by rw [free_grown ht hf hg];omega,by omega⟩
 obtain ⟨k1,k2,k3⟩:=key
 have hE:addE t l=0:=(addE_room hs).trans k1
 obtain ⟨r0,r1,r2,r3,r4,r5,r6,r7,r8⟩:=room_ok ht k1
 obtain ⟨x1,x2⟩:=add_ok hE
 have hl2:=addL_len hE
 refine ⟨hE,x1.trans k2,addL_is ht l,by rw [hl2];exact k3,fun j hj=>?_⟩
 have hlv2:=leavesA_eq (addL t l)
 have hr4:=r4.le
 rw [addL_at ht hE]
 by_cases z:j=n
 ·rw [if_pos (by omega)]
  exact ⟨fun q=>absurd (show (1:Int)=0 from q) (by decide),fun q=>by omega⟩
 rw [if_neg (by omega),if_neg (fun q=>by have:=(dir_all r4 _ q).2.2.1;omega)]
 by_cases y:2*j<t.length
 ·rw [r6 _ y,hk j (by omega)]
  omega
 rw [r7 _ (by omega)]
 refine ⟨fun _=>?_,fun _=>rfl⟩
 have h3:=hk
 omega
theorem full_end {t:List Nd} {l:Lf} (h:fullT 64 t) (hs:srcE l 1=0):addE t l=10∧addL t l=[]:=by
 obtain ⟨ht,hl,hk⟩:=h
 have hlv:=leavesA_eq t
 have hl:(t.length:Int)=127:=hl
 have hf:freeA t=-1:=freeA_no fun j hj z=>by
  have:=(hk j hj).1 z
  omega
 have e:addE t l=10:=by
  rw [addE_room hs,(room_no hf).1]
  unfold growE
  rw [trAs_ok ht]
  exact if_pos (by omega)
 exact ⟨e,(add_no (by rw [e];decide)).2⟩
end Go.Proofs.YtfdmhdnlmndhdaaGreatDoor
