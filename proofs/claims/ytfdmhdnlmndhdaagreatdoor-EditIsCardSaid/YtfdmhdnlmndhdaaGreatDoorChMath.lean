/-
  Parent hashes: who made which node, what is planned: pure.
-/
import Derived.Test.YtfdmhdnlmndhdaaGreatDoorKitD
import Derived.Test.YtfdmhdnlmndhdaaGreatDoorRsFil
namespace Go.Proofs.YtfdmhdnlmndhdaaGreatDoor
open Go.ChangeShapes Go.WideShapes Go.ChangeAt Go.RowKit
set_option linter.unusedVariables false

/-- What a node says of its parent. -/
def saysN (n:Nd):List Int:=if n.kind=1 then n.leaf.par else n.inner.hash
/-- The parent hash that a node gives to those beside whom another stands. -/
def givesL (t:List Nd) (x b:Int):List Int:=sumL (ofParentO (atN t x.toNat).inner (ofH (dropL (atN t x.toNat).inner.unm t) b))
theorem gives_len (t:List Nd) (x b:Int):(givesL t x b).length=32:=sumL_length _
/-- Those that do not know it, below a child, as nodes. -/
def unmO (u:List Int) (c w:Int):List Int:=(u.map (2*·)).filter fun y=>decide (undI y c w)
def unmB (t:List Nd) (x c:Int):List Int:=unmO (atN t x.toNat).inner.unm c t.length
theorem unmO_take {u:List Int} {c w:Int} {k:Nat} (h:k<u.length):unmO (u.take (k+1)) c w=unmO (u.take k) c w++(if undI (2*u.getD k 0) c w then [2*u.getD k 0] else []):=by
 rw [take_succ_getD u k h]
 unfold unmO
 rw [List.map_append,List.filter_append]
 by_cases q:undI (2*u.getD k 0) c w
 ·rw [if_pos q]
  exact congrArg _ (List.filter_cons_of_pos (decide_eq_true q))
 rw [if_neg q]
 exact congrArg _ (List.filter_cons_of_neg (by rw [decide_eq_false q];decide))
theorem unmO_le (u:List Int) (c w:Int):(unmO u c w).length≤u.length:=by
 have:=List.length_filter_le (fun y=>decide (undI y c w)) (u.map (2*·))
 rwa [List.length_map] at this
/-- Did one make a node's way by a child? -/
def linkL (t:List Nd) (x c d:Int):Prop:=isN x (t.length:Int)∧(atN t x.toNat).kind=2∧(c=leftI x t.length∨c=rightI x t.length)∧d∈resL t c∧cutK (resL t c) [d]=unmB t x c∧saysN (atN t d.toNat)=givesL t x (sibI c t.length)
instance (t:List Nd) (x c d:Int):Decidable (linkL t x c d):=by unfold linkL;infer_instance
/-- Did somebody below a child? -/
def madeL (t:List Nd) (x c:Int):Prop:=∃ d∈resL t c,linkL t x c d
instance (t:List Nd) (x c:Int):Decidable (madeL t x c):=by unfold madeL;infer_instance
def validL (t:List Nd) (x:Int):Prop:=isN x (t.length:Int)∧((atN t x.toNat).kind=2→madeL t x (leftI x t.length)∨madeL t x (rightI x t.length))
instance (t:List Nd) (x:Int):Decidable (validL t x):=by unfold validL;infer_instance
def verL (t:List Nd):Prop:=∀ i,i<t.length→validL t (i:Int)
instance (t:List Nd):Decidable (verL t):=by unfold verL;infer_instance
theorem says_node {t:List Nd} {x c d:Int} (h:saysN (atN t d.toNat)=givesL t x c) (h0:0≤d) (ht:trIs t):isN d (t.length:Int)∧¬(atN t d.toNat).kind=0:=by
 have hl:=congrArg List.length h
 rw [gives_len] at hl
 have hk:¬(atN t d.toNat).kind=0:=fun q=>by
  rcases nd_cases (trIs_ok ht d.toNat).1 with e | e | e
  ·rw [e] at hl
   exact absurd hl (by decide)
  ·omega
  omega
 refine ⟨isN_of ht h0 ?_,hk⟩
 refine Classical.byContradiction fun q=>hk ?_
 rw [atN_none (by omega)]
/-- The one that may have made it is the first that x knows. -/
theorem link_first {t:List Nd} {x c d:Int} {k:Nat} (h:linkL t x c d) (hk:k<(resL t c).length) (hp:∀ j,j<k→(resL t c).getD j 0∈unmB t x c) (hn:(resL t c).getD k 0∉unmB t x c):d=(resL t c).getD k 0:=by
 obtain ⟨_,_,_,hm,hc,_⟩:=h
 refine Classical.byContradiction fun q=>hn ?_
 rw [←hc]
 exact cutK_mem.2 ⟨getD_in hk,fun z=>q (by have:=List.mem_singleton.1 z;omega)⟩
theorem link_none {t:List Nd} {x c d:Int} (h:linkL t x c d) (hp:∀ j,j<(resL t c).length→(resL t c).getD j 0∈unmB t x c):False:=by
 obtain ⟨_,_,_,hm,hc,_⟩:=h
 obtain ⟨j,hj,e⟩:=mem_getD hm
 have:=hp j hj
 rw [e,←hc] at this
 exact (cutK_mem.1 this).2 (by simp)
/-- What is wrong with a key. -/
def keyE (k:List Int):Int:=if k.length=0 then 5 else if 200<k.length then 4 else 0
def keysE:List (List Int)→Int
 | []=>0
 | k::ks=>if keyE k=0 then keysE ks else keyE k
theorem pn_key (k:List Int):pnCheck ⟨k,[],[]⟩=keyE k:=by
 unfold pnCheck keyE
 by_cases h0:k.length=0
 ·rw [if_pos (by simpa using h0),if_pos h0]
 rw [if_neg (by simpa using h0),if_neg h0]
 by_cases h1:200<k.length
 ·rw [if_pos (.inl (show (200:Int)<(k.length:Int) by omega)),if_pos h1]
 rw [if_neg (fun z=>by
  rcases z with z | z | z
  ·exact h1 (by have z:(200:Int)<(k.length:Int):=z;omega)
  ·exact absurd (show (200:Int)<0 from z) (by decide)
  exact absurd (show (64:Int)<0 from z) (by decide)),if_neg h1,if_neg (by rintro ⟨x,q,_⟩;cases q),if_neg (fun q=>q List.Pairwise.nil)]
theorem keysE_none:∀ {ks:List (List Int)},(∀ j,j<ks.length→keyE (ks.getD j [])=0)→keysE ks=0
 | [],_=>rfl
 | k::ks,h=>by
  rw [keysE,if_pos (show keyE k=0 from h 0 (by simp))]
  exact keysE_none fun j hj=>h (j+1) (by simpa using hj)
theorem keysE_first:∀ {ks:List (List Int)} {t:Nat},(∀ j,j<t→keyE (ks.getD j [])=0)→t<ks.length→¬keyE (ks.getD t [])=0→keysE ks=keyE (ks.getD t [])
 | [],t,_,h,_=>absurd h (Nat.not_lt_zero _)
 | k::ks,0,_,_,hk=>by
  rw [keysE,if_neg (show ¬keyE k=0 from hk)]
  rfl
 | k::ks,t+1,h,ht,hk=>by
  rw [keysE,if_pos (show keyE k=0 from h 0 (by omega))]
  exact keysE_first (fun j hj=>h (j+1) (by omega)) (by simpa using ht) hk
theorem keysE_ok:∀ {ks:List (List Int)},keysE ks=0→∀ k∈ks,0<k.length∧k.length≤200
 | [],_,_,q=>by cases q
 | k::ks,h,x,hx=>by
  rw [keysE] at h
  split at h
  ·rename_i e
   rcases List.mem_cons.1 hx with rfl | hx
   ·unfold keyE at e
    split at e
    ·omega
    split at e
    ·omega
    omega
   exact keysE_ok h x hx
  rename_i e
  exact absurd h e
/-- A node on the way is laid anew, and gives. -/
abbrev keyN (k said:List Int):Nd:=⟨2,Lf.zero,⟨k,said,[]⟩⟩
abbrev Zk:=(Int × Int) × List Int
def planS (o:List Nd × List Int) (p:Int × Int) (k:List Int):List Nd × List Int:=(o.1.set p.1.toNat (keyN k o.2),givesL (o.1.set p.1.toNat (keyN k o.2)) p.1 p.2)
def planF (a:List Nd):List Zk→List Nd × List Int
 | []=>(a,[])
 | p::ps=>planS (planF a ps) p.1 p.2
def plan0 (a:List Nd) (i:Int):List Nd:=clr (dirI (2*i) a.length) a
def planZ (a:List Nd) (i:Int) (ks:List (List Int)):List Zk:=(forkL a i).zip ks
def planE (a:List Nd) (i:Int) (ks:List (List Int)):Int:=if ¬(0≤i∧i<leavesA a) then 3 else if ¬ks.length=(forkL a i).length then 11 else keysE ks
def planP (a:List Nd) (i:Int) (ks:List (List Int)):List Nd:=if planE a i ks=0 then (planF (plan0 a i) (planZ a i ks)).1 else []
def planH (a:List Nd) (i:Int) (ks:List (List Int)):List Int:=if planE a i ks=0 then (planF (plan0 a i) (planZ a i ks)).2 else []
theorem planF_len (a:List Nd):∀ Z:List Zk,(planF a Z).1.length=a.length
 | []=>rfl
 | p::ps=>by
  show ((planF a ps).1.set _ _).length=_
  rw [List.length_set,planF_len a ps]
theorem planF_said (a:List Nd) (Z:List Zk):(planF a Z).2.length≤32:=by
 cases Z with
 | nil=>exact Nat.zero_le _
 | cons p ps=>exact Nat.le_of_eq (gives_len _ _ _)
theorem planZ_len {a:List Nd} {i:Int} {ks:List (List Int)} (h:ks.length=(forkL a i).length):(planZ a i ks).length=(forkL a i).length:=by
 rw [planZ,List.length_zip,h,Nat.min_self]
theorem planZ_at {a:List Nd} {i:Int} {ks:List (List Int)} (h:ks.length=(forkL a i).length) {k:Nat} (hk:k<(forkL a i).length):(planZ a i ks)[k]?=some ((((forkL a i).map Prod.fst).getD k 0,((forkL a i).map Prod.snd).getD k 0),ks.getD k []):=by
 rw [planZ,List.getElem?_zip_eq_some,List.getD_eq_getElem?_getD,List.getD_eq_getElem?_getD,List.getD_eq_getElem?_getD,List.getElem?_map,List.getElem?_map,List.getElem?_eq_getElem hk,List.getElem?_eq_getElem (show k<ks.length by omega)]
 exact ⟨rfl,rfl⟩
theorem plan_step {a t:List Nd} {i:Int} {ks:List (List Int)} (h:ks.length=(forkL a i).length) {k:Nat} (hk:k<(forkL a i).length) :
  planF t ((planZ a i ks).drop k)=planS (planF t ((planZ a i ks).drop (k+1))) (((forkL a i).map Prod.fst).getD k 0,((forkL a i).map Prod.snd).getD k 0) (ks.getD k []):=by
 have hz:=planZ_at h hk
 have hl:k<(planZ a i ks).length:=by rw [planZ_len h];exact hk
 rw [List.drop_eq_getElem_cons hl,Option.some.inj ((List.getElem?_eq_getElem hl).symm.trans hz)]
 rfl
theorem plan_end {a t:List Nd} {i:Int} {ks:List (List Int)} (h:ks.length=(forkL a i).length):planF t ((planZ a i ks).drop (forkL a i).length)=(t,[]):=by
 rw [List.drop_of_length_le (by rw [planZ_len h];exact Nat.le_refl _)]
 rfl
theorem key_ok {k said:List Int} (h0:0<k.length) (h1:k.length≤200) (h2:said.length≤200):ndCheck (keyN k said)=0 :=
 nd_ok2 rfl rfl (pnCheck_mk h0 h1 h2 (Nat.zero_le _) (fun x q=>by cases q) List.Pairwise.nil)
theorem planF_is {a:List Nd} (ha:trIs a):∀ {Z:List Zk},(∀ z∈Z,isN z.1.1 (a.length:Int)∧¬z.1.1 % 2=0∧0<z.2.length∧z.2.length≤200)→trIs (planF a Z).1
 | [],_=>ha
 | p::ps,h=>by
  have ih:=planF_is ha (Z:=ps) fun z hz=>h z (List.mem_cons_of_mem _ hz)
  obtain ⟨h1,h2,h3,h4⟩:=h p (by simp)
  have:=h1.le
  exact trIs_set ih ⟨key_ok h3 h4 (Nat.le_trans (planF_said a ps) (by omega)),.inl (by omega),.inr (show (2:Int)≠1 by decide)⟩
/-- What stands on a leaf's filtered way. -/
theorem fork_nodes {a:List Nd} {i:Int} (ha:trIs a) {p:Int × Int} (h:p∈forkL a i):isN p.1 (a.length:Int)∧¬p.1 % 2=0∧isN p.2 (a.length:Int)∧isN (2*i) (a.length:Int)∧p∈wayP a i:=by
 by_cases q:0≤i∧i<leavesA a
 ·rw [fork_yes q] at h
  have hl:leavesA a=(a.length+1) / 2:=rfl
  have hw:=trIs_len ha
  have hN:isN (2*i) (a.length:Int):=isN_of ha (by omega) (by omega)
  have hm:=(List.mem_filter.1 h).1
  have hz:=List.of_mem_zip hm
  have hd:∀ k∈dirI (2*i) (a.length:Int),isN k (a.length:Int)∧¬k % 2=0:=fin2 (p:=fun x w=>∀ k∈dirI x w,isN k w∧¬k % 2=0) (by kernel_rfl) hN
  exact ⟨(hd _ hz.1).1,(hd _ hz.1).2,(cop_nodes hN _ hz.2).1,hN,hm⟩
 rw [fork_no q] at h
 cases h
theorem planE_ok {a:List Nd} {i:Int} {ks:List (List Int)} (h:planE a i ks=0):(0≤i∧i<leavesA a)∧ks.length=(forkL a i).length∧keysE ks=0:=by
 unfold planE at h
 split at h
 ·exact absurd h (by decide)
 rename_i h1
 split at h
 ·exact absurd h (by decide)
 rename_i h2
 exact ⟨Classical.not_not.1 h1,Classical.not_not.1 h2,h⟩
theorem planE_range {a:List Nd} {i:Int} {ks:List (List Int)} (h:¬(0≤i∧i<leavesA a)):planE a i ks=3:=if_pos h
theorem planE_path {a:List Nd} {i:Int} {ks:List (List Int)} (h:0≤i∧i<leavesA a) (h2:¬ks.length=(forkL a i).length):planE a i ks=11:=by
 unfold planE
 rw [if_neg (fun q=>q h),if_pos h2]
theorem planE_keys {a:List Nd} {i:Int} {ks:List (List Int)} (h:0≤i∧i<leavesA a) (h2:ks.length=(forkL a i).length):planE a i ks=keysE ks:=by
 unfold planE
 rw [if_neg (fun q=>q h),if_neg (fun q=>q h2)]
theorem planP_no {a:List Nd} {i:Int} {ks:List (List Int)} (h:¬planE a i ks=0):planP a i ks=[]∧planH a i ks=[]:=⟨if_neg h,if_neg h⟩
theorem planP_ok {a:List Nd} {i:Int} {ks:List (List Int)} (h:planE a i ks=0):planP a i ks=(planF (plan0 a i) (planZ a i ks)).1∧planH a i ks=(planF (plan0 a i) (planZ a i ks)).2:=⟨if_pos h,if_pos h⟩
theorem planH_le (a:List Nd) (i:Int) (ks:List (List Int)):(planH a i ks).length≤32:=by
 unfold planH
 split
 ·exact planF_said _ _
 exact Nat.zero_le _
theorem planZ_nodes {a:List Nd} {i:Int} {ks:List (List Int)} (ha:trIs a) (h:planE a i ks=0):∀ z∈planZ a i ks,isN z.1.1 (a.length:Int)∧¬z.1.1 % 2=0∧0<z.2.length∧z.2.length≤200:=fun z hz=>by
 obtain ⟨_,_,hk⟩:=planE_ok h
 have hm:=List.of_mem_zip (l₁:=forkL a i) (l₂:=ks) (a:=z.1) (b:=z.2) hz
 obtain ⟨h1,h2,_⟩:=fork_nodes ha hm.1
 exact ⟨h1,h2,keysE_ok hk _ hm.2⟩
theorem plan0_len (a:List Nd) (i:Int):(plan0 a i).length=a.length:=clr_len _ _
theorem plan0_is {a:List Nd} (ha:trIs a) (i:Int):trIs (plan0 a i):=clr_is _ ha
theorem planP_is {a:List Nd} (ha:trIs a) (i:Int) (ks:List (List Int)):trIs (planP a i ks):=by
 by_cases h:planE a i ks=0
 ·rw [(planP_ok h).1]
  refine planF_is (plan0_is ha i) fun z hz=>?_
  rw [plan0_len]
  exact planZ_nodes ha h z hz
 rw [(planP_no h).1]
 exact trIs_nil
theorem planP_len {a:List Nd} {i:Int} {ks:List (List Int)} (h:planE a i ks=0):(planP a i ks).length=a.length:=by
 rw [(planP_ok h).1,planF_len,plan0_len]
end Go.Proofs.YtfdmhdnlmndhdaaGreatDoor
