/-
  What is always so, whatever is done to a tree from the empty one on: pure.
-/
import Derived.Test.YtfdmhdnlmndhdaaGreatDoorEdMath
namespace Go.Proofs.YtfdmhdnlmndhdaaGreatDoor
open Go.ChangeShapes Go.WideShapes Go.ChangeAt Go.RowKit
set_option linter.unusedVariables false

theorem leaf_two (l:Lf):¬(leafN l).kind=2:=show ¬(1:Int)=2 by decide
theorem leaf_nil (l:Lf):¬(leafN l).kind=0:=show ¬(1:Int)=0 by decide
-- how far a node reaches
theorem und_span {x y w:Int} (h:undI y x w):y<x+(p2 (lvlN x.toNat):Int)∧x<y+(p2 (lvlN x.toNat):Int):=by
 obtain ⟨hy,hx,u⟩:=h
 unfold undN at u
 rw [Bool.and_eq_true,Nat.ble_eq,Nat.ble_eq] at u
 have:=hy.le
 have:=hx.le
 omega
theorem und_reach {x w:Int} (h:isN x w):x+(p2 (lvlN x.toNat):Int)≤w∧(lvl x≠0→leftI x w+(p2 (lvlN (leftI x w).toNat):Int)≤x) :=
 fin2 (p:=fun x w=>x+(p2 (lvlN x.toNat):Int)≤w∧(lvl x≠0→leftI x w+(p2 (lvlN (leftI x w).toNat):Int)≤x)) (by kernel_rfl) h
theorem und_left {x y w:Int} (hx:isN x w) (hl:lvl x≠0) (u:undI y (leftI x w) w):y<x:=by
 have h1:=(und_span u).1
 have h2:=(und_reach hx).2 hl
 omega
theorem und_wide {x y w:Int} (hx:isN x w) (hw:w≤63):undI y x (2*w+1)↔undI y x w:=by
 have hx2:=(grow_node hx hw).1
 constructor
 ·intro u
  have h1:=(und_span u).1
  have h2:=(und_reach hx).1
  have h3:=u.1.le
  exact ⟨⟨hx.1,by omega,by omega⟩,hx,u.2.2⟩
 intro u
 exact ⟨(grow_node u.1 hw).1,hx2,u.2.2⟩
-- a tree, and one of which it is the left half
section
variable {t g:List Nd} (hl:(g.length:Int)=2*t.length+1) (hw:(t.length:Int)≤63) (ha:∀ i,i<t.length→atN g i=atN t i)
include hl hw ha
theorem at_wide {x:Int} (h:isN x (t.length:Int)):atN g x.toNat=atN t x.toNat:=ha _ (by have:=h.le;omega)
theorem hi_wide {x:Int} (h:isN x (t.length:Int)):hiL g x=hiL t x :=
 hi_all (P:=fun x=>hiL g x=hiL t x)
  (fun x h k e=>by
   rw [e,hi_eq,hi_one (by rw [hl];exact (grow_node h hw).1) (by rw [at_wide hl hw ha h];exact k)])
  (fun x h k lv e=>by
   rw [e,hi_leaf (by rw [hl];exact (grow_node h hw).1) (by rw [at_wide hl hw ha h];exact k) ((even_lvl h).2 lv)])
  (fun x h k lv e _ _ a b=>by
   obtain ⟨g1,g2,g3,_⟩:=grow_node h hw
   rw [e,hi_both (by rw [hl];exact g1) (by rw [at_wide hl hw ha h];exact k),hl,g2,g3,a,b]) h
theorem res_wide {x:Int} (h:isN x (t.length:Int)):resL g x=resL t x:=by
 have e:∀ k∈hiL t x,nodeR g k=nodeR t k:=fun k hk=>by
  unfold nodeR
  rw [at_wide hl hw ha (hi_in hk).2.1]
 unfold resL resOf
 rw [hi_wide hl hw ha h]
 generalize hiL t x=l at e
 induction l with
 | nil=>rfl
 | cons k l ih=>rw [List.flatMap_cons,List.flatMap_cons,e k (by simp),ih fun q hq=>e q (by simp [hq])]
theorem hs_wide {x:Int} (h:isN x (t.length:Int)):hsL g x=hsL t x :=
 hs_all (P:=fun x=>hsL g x=hsL t x)
  (fun x h e=>by rw [hs_leaf (by rw [hl];exact (grow_node h hw).1) e,hs_leaf h e,at_wide hl hw ha h])
  (fun x h e _ _ a b=>by
   obtain ⟨g1,g2,g3,_⟩:=grow_node h hw
   rw [hs_inner (by rw [hl];exact g1) e,hs_inner h e,at_wide hl hw ha h,hl,g2,g3,a,b]) h
theorem gives_wide {x b:Int} (hx:isN x (t.length:Int)) (hb:isN b (t.length:Int)):givesL g x b=givesL t x b:=by
 unfold givesL
 rw [at_wide hl hw ha hx,ofH_yes (by rw [dropL_len,hl];exact (grow_node hb hw).1),ofH_yes (by rw [dropL_len];exact hb)]
 refine congrArg _ (congrArg _ (hs_wide (by rw [dropL_len,dropL_len];exact hl) (by rw [dropL_len];exact hw) (fun i hi=>?_) (by rw [dropL_len];exact hb)))
 rw [dropL_len] at hi
 rw [drop_at (by omega),drop_at hi,ha i hi]
theorem unmB_wide {x c:Int} (hx:isN x (t.length:Int)) (hc:isN c (t.length:Int)):unmB g x c=unmB t x c:=by
 unfold unmB unmO
 rw [at_wide hl hw ha hx,hl]
 exact List.filter_congr fun y _=>decide_eq_decide.2 (und_wide hc hw)
theorem link_wide (ht:trIs t) (hg:trIs g) {x c d:Int} (hx:isN x (t.length:Int)) (ho:¬x % 2=0) (hc:c=leftI x t.length∨c=rightI x t.length):linkL g x c d↔linkL t x c d:=by
 obtain ⟨⟨a1,a2⟩,_,_,b1,b2,_⟩:=kids_up (y:=x) hx ho
 obtain ⟨g1,g2,g3,_⟩:=grow_node hx hw
 obtain ⟨_,_,_,b3,b4,_⟩:=kids_up (y:=x) g1 ho
 rw [←hl] at g1 g2 g3 b3 b4
 rw [g2,g3] at b3 b4
 have hcn:isN c (t.length:Int)∧isN (sibI c t.length) (t.length:Int)∧sibI c g.length=sibI c t.length:=by
  rcases hc with e | e
  ·rw [e,b1,b3]
   exact ⟨a1,a2,rfl⟩
  rw [e,b2,b4]
  exact ⟨a2,a1,rfl⟩
 obtain ⟨c1,c2,c3⟩:=hcn
 have hr:=res_wide hl hw ha c1
 have hu:=unmB_wide hl hw ha hx c1
 have hgv:=gives_wide hl hw ha hx c2
 have hxx:=at_wide hl hw ha hx
 constructor
 ·intro h
  have hd:=link_hi hg h
  rw [hi_wide hl hw ha c1] at hd
  obtain ⟨h1,h2,h3,h4,h5,h6⟩:=h
  rw [at_wide hl hw ha (hi_in hd).2.1,c3,hgv] at h6
  exact ⟨hx,hxx▸h2,hc,hr▸h4,by rw [←hr,h5,hu],h6⟩
 intro h
 have hd:=link_hi ht h
 obtain ⟨h1,h2,h3,h4,h5,h6⟩:=h
 refine ⟨g1,by rw [hxx];exact h2,by rw [g2,g3];exact hc,by rw [hr];exact h4,by rw [hr,h5,hu],?_⟩
 rw [at_wide hl hw ha (hi_in hd).2.1,c3,hgv]
 exact h6
theorem valid_wide (ht:trIs t) (hg:trIs g) {x:Int} (hx:isN x (t.length:Int)):validL g x↔validL t x:=by
 obtain ⟨g1,g2,g3,_⟩:=grow_node hx hw
 have hxx:=at_wide hl hw ha hx
 have key:∀ c,(atN t x.toNat).kind=2→(c=leftI x t.length∨c=rightI x t.length)→(madeL g x c↔madeL t x c):=fun c k hc=>by
  have ho:=inner_odd ht hx k
  have hlk:=fun d=>link_wide hl hw ha ht hg hx ho hc (d:=d)
  constructor
  ·rintro ⟨d,_,h⟩
   have h:=(hlk d).1 h
   exact ⟨d,h.2.2.2.1,h⟩
  rintro ⟨d,_,h⟩
  have h:=(hlk d).2 h
  exact ⟨d,h.2.2.2.1,h⟩
 unfold validL
 rw [hxx,hl,g2,g3]
 constructor
 ·rintro ⟨_,h⟩
  exact ⟨hx,fun k=>(h k).imp (key _ k (.inl rfl)).1 (key _ k (.inr rfl)).1⟩
 rintro ⟨_,h⟩
 exact ⟨g1,fun k=>(h k).imp (key _ k (.inl rfl)).2 (key _ k (.inr rfl)).2⟩
end
/-- Are unmerged leaves that a node names there, and below, and named by all between? -/
def nmd (t:List Nd) (x:Int):Prop:=∀ u∈(atN t x.toNat).inner.unm,undI (2*u) x t.length∧(atN t (2*u).toNat).kind=1∧∀ p,undI (2*u) p t.length→undI p x t.length→(atN t p.toNat).kind=2→u∈(atN t p.toNat).inner.unm
theorem nmd_none {t:List Nd} {x:Int} (h:(atN t x.toNat).inner.unm=[]):nmd t x:=fun u hu=>by
 rw [h] at hu
 cases hu
theorem nmd_kind {t:List Nd} (ht:trIs t) {x:Int} (k:¬(atN t x.toNat).kind=2):nmd t x:=nmd_none (by rw [unm_kind (trIs_ok ht x.toNat).1 k])
theorem nmd_congr {t s:List Nd} (hl:t.length=s.length) {x:Int} (hx:isN x (t.length:Int)) (f:∀ y,undI y x t.length→atN t y.toNat=atN s y.toNat) (h:nmd t x):nmd s x:=fun u hu=>by
 rw [←f x (und_refl hx)] at hu
 obtain ⟨h1,h2,h3⟩:=h u hu
 rw [←hl]
 refine ⟨h1,by rw [←f _ h1];exact h2,fun p p1 p2 pk=>?_⟩
 rw [←f p p2] at pk ⊢
 exact h3 p p1 p2 pk
theorem nmd_wide {t g:List Nd} (hl:(g.length:Int)=2*t.length+1) (hw:(t.length:Int)≤63) (ha:∀ i,i<t.length→atN g i=atN t i) {x:Int} (hx:isN x (t.length:Int)):nmd g x↔nmd t x:=by
 unfold nmd
 rw [at_wide hl hw ha hx,hl]
 constructor
 ·intro h u hu
  obtain ⟨h1,h2,h3⟩:=h u hu
  have h1:=(und_wide hx hw).1 h1
  rw [at_wide hl hw ha h1.1] at h2
  refine ⟨h1,h2,fun p p1 p2 pk=>?_⟩
  have:=h3 p ((und_wide p2.1 hw).2 p1) ((und_wide hx hw).2 p2) (by rw [at_wide hl hw ha p2.1];exact pk)
  rwa [at_wide hl hw ha p2.1] at this
 intro h u hu
 obtain ⟨h1,h2,h3⟩:=h u hu
 refine ⟨(und_wide hx hw).2 h1,by rw [at_wide hl hw ha h1.1];exact h2,fun p p1 p2 pk=>?_⟩
 have q2:=(und_wide hx hw).1 p2
 rw [at_wide hl hw ha q2.1] at pk ⊢
 exact h3 p ((und_wide q2.1 hw).1 p1) q2 pk
/-- Valid, and named rightly. -/
structure Half (t:List Nd):Prop where
 is:trIs t
 nm:∀ x,isN x (t.length:Int)→nmd t x
 ok:∀ x,isN x (t.length:Int)→validL t x
structure Good (t:List Nd):Prop extends Half t where
 tr:trimL t=t
theorem valid_kind {t:List Nd} {x:Int} (hx:isN x (t.length:Int)) (k:¬(atN t x.toNat).kind=2):validL t x:=⟨hx,fun q=>absurd q k⟩
theorem half_nil:Half []:=⟨trIs_nil,fun x h=>absurd h.le.2.1 (by have:=h.le;simp only [List.length_nil] at this ⊢;omega),fun x h=>absurd h.le.2.1 (by have:=h.le;simp only [List.length_nil] at this ⊢;omega)⟩
theorem good_nil:Good []:=⟨half_nil,trimL_nil⟩
theorem half_ver {t:List Nd} (h:Half t):verL t:=fun i hi=>h.ok _ (isN_of h.is (by omega) (by omega))
theorem half_left {t g:List Nd} (hl:(g.length:Int)=2*t.length+1) (hw:(t.length:Int)≤63) (ha:∀ i,i<t.length→atN g i=atN t i) (ht:trIs t) (h:Half g):Half t :=
 ⟨ht,fun x hx=>(nmd_wide hl hw ha hx).1 (h.nm x (by rw [hl];exact (grow_node hx hw).1)),fun x hx=>(valid_wide hl hw ha ht h.is hx).1 (h.ok x (by rw [hl];exact (grow_node hx hw).1))⟩
theorem half_take {a:List Nd} (h:Half a) (h1:1<a.length):Half (a.take (a.length / 2)):=by
 have hl:=trIs_len h.is
 have e:(a.take (a.length / 2)).length=a.length / 2:=by
  rw [List.length_take]
  omega
 exact half_left (by rw [e];omega) (by rw [e];omega) (fun i hi=>by rw [e] at hi;rw [atN_take hi]) (trIs_half h.is h1) h
theorem half_trimN:∀ (k:Nat) {a:List Nd},Half a→Half (trimN k a)
 | 0,_,h=>h
 | k+1,a,h=>by
  by_cases c:1<a.length∧noLeaf (a.drop (a.length / 2+1))
  ·rw [trim_step k c.1 c.2]
   exact half_trimN k (half_take h c.1)
  rw [trim_stop _ c]
  exact h
theorem good_trim {a:List Nd} (h:Half a):Good (trimL a):=by
 refine ⟨?_,trim_twice a⟩
 unfold trimL endA
 split
 ·exact half_nil
 rw [trAs_ok h.is]
 exact half_trimN 7 h
theorem half_grow {a:List Nd} (h:Half a) (g:growE a=0):Half (growL a):=by
 obtain ⟨h1,h2,h3⟩:=grown h.is g
 have hg:=trIs_growL a
 have hx:∀ x,isN x ((growL a).length:Int)→isN x (a.length:Int)∨(atN (growL a) x.toNat).kind=0:=fun x hx=>by
  by_cases q:x<(a.length:Int)
  ·exact .inl (isN_of h.is hx.le.1 q)
  exact .inr (by rw [h3,atN_none (by omega)])
 refine ⟨hg,fun x hxn=>?_,fun x hxn=>?_⟩
 ·rcases hx x hxn with q | q
  ·exact (nmd_wide h1 h2 (fun i _=>h3 i) q).2 (h.nm x q)
  exact nmd_kind hg (by omega)
 rcases hx x hxn with q | q
 ·exact (valid_wide h1 h2 (fun i _=>h3 i) h.is hg q).2 (h.ok x q)
 exact valid_kind hxn (by omega)
theorem half_room {a:List Nd} (h:Half a) (g:roomE a=0):Half (roomL a):=by
 by_cases q:freeA a=-1
 ·rw [(room_no q).2]
  rw [(room_no q).1] at g
  exact half_grow h g
 rw [(room_yes q).2]
 exact h
/-- What is off the way stays so. -/
theorem off_keep {t s:List Nd} {i:Int} (ht:trIs t) (hs:trIs s) (h:offW i t s) {x:Int} (hx:isN x (t.length:Int)) (u:¬undI (2*i) x t.length):(nmd t x→nmd s x)∧(validL t x→validL s x):=by
 have f:∀ y,undI y x t.length→atN t y.toNat=atN s y.toNat:=fun y uy=>(h.2 y uy.1 fun q=>u (und_up q uy)).symm
 exact ⟨nmd_congr h.1.symm hx f,valid_congr' ht hs h.1.symm f⟩
/-- It is enough to know what stands on the way. -/
theorem half_off {t s:List Nd} {i:Int} (h:Half t) (hs:trIs s) (o:offW i t s) (nm:∀ x,undI (2*i) x t.length→nmd s x) (ok:∀ x,undI (2*i) x t.length→validL s x):Half s:=by
 refine ⟨hs,fun x hx=>?_,fun x hx=>?_⟩
 ·rw [o.1] at hx
  by_cases u:undI (2*i) x t.length
  ·exact nm x u
  exact (off_keep h.is hs o hx u).1 (h.nm x hx)
 rw [o.1] at hx
 by_cases u:undI (2*i) x t.length
 ·exact ok x u
 exact (off_keep h.is hs o hx u).2 (h.ok x hx)
theorem trim_id {s:List Nd} (hs:trIs s) {x:Nat} (h1:x<s.length) (h2:(atN s x).kind=1) (h3:rootI (s.length:Int)≤x):trimL s=s:=by
 have hl:=trIs_len hs
 have hr:rootI (s.length:Int)=((s.length:Int)-1) / 2:=root_is (by unfold isW;omega)
 have hk:=ok_kind (trIs_ok hs x)
 unfold trimL
 rw [trAs_ok hs,trim_stop 7 (fun q=>?_)]
 ·refine if_neg fun q=>?_
  obtain ⟨q1,q2⟩:=q
  exact q2 x h1 h2
 obtain ⟨q1,q2⟩:=q
 have:=q2 (x-(s.length / 2+1)) (by rw [List.length_drop];omega)
 rw [atN_drop,show s.length / 2+1+(x-(s.length / 2+1))=x by omega] at this
 exact this h2
/-- Where all leaves that were there are. -/
theorem trim_more' {t s:List Nd} (ht:Half t) (tr:trimL t=t) (hs:trIs s) (hl:s.length=t.length) (h0:¬t=[]) (f:∀ x,x<t.length→(atN t x).kind=1→(atN s x).kind=1):trimL s=s:=by
 obtain ⟨x,h1,h2,h3⟩:=trim_last (a:=t) (by rw [tr];exact h0)
 rw [tr] at h1 h2 h3
 exact trim_id hs (by omega) (f x h1 h2) (by rw [hl];exact h3)
theorem good_rem {a:List Nd} {i:Int} (h:Good a):Good (remL a i):=by
 by_cases q:hadE a i=0
 ·rw [rem_ok q]
  refine good_trim ?_
  have hh:=hadE_ok q
  have hN:=(had_node h.is q).1
  obtain ⟨c1,c2⟩:=clear_is h.is hh.1
  have hz:∀ x,undI (2*i) x a.length→(atN (clearL a i) x.toNat).kind=0:=fun x u=>by
   have hx:=u.2.1
   have hx2:=hx.le
   rw [clear_at h.is hh.1,if_pos]
   rcases (und_dir hN hx).2 u with z | z
   ·exact .inl (by rw [z])
   exact .inr (by rw [show ((x.toNat:Nat):Int)=x by omega];exact z)
  refine half_off h.toHalf c1 ⟨c2,fun y hy u=>?_⟩ (fun x u=>nmd_kind c1 (by rw [hz x u];decide)) fun x u=>valid_kind (by rw [c2];exact u.2.1) (by rw [hz x u];decide)
  obtain ⟨w1,w2⟩:=on_way hN hy u
  have:=hy.le
  have:=hN.le
  rw [clear_at h.is hh.1,if_neg]
  rintro (z | z)
  ·omega
  exact w2 (by rwa [show ((y.toNat:Nat):Int)=y by omega] at z)
 rw [rem_no q]
 exact good_nil
theorem good_cha {a:List Nd} {i:Int} {l:Lf} (h:Good a):Good (chaL a i l):=by
 by_cases q:chaE a i l=0
 ·have hs:=chaL_is h.is i l
  have hl:=chaL_len h.is q
  obtain ⟨q1,q2⟩:=chaE_ok q
  obtain ⟨hN,hk⟩:=had_node h.is q1
  have hN2:=hN.le
  have hat:=fun j=>chaL_at h.is q j
  have hz:∀ x,undI (2*i) x a.length→¬(atN (chaL a i l) x.toNat).kind=2:=fun x u=>by
   have hx:=u.2.1
   have hx2:=hx.le
   rw [hat]
   rcases (und_dir hN hx).2 u with z | z
   ·rw [if_pos (by omega)]
    exact leaf_two l
   rw [show ((x.toNat:Nat):Int)=x by omega,if_pos z]
   split
   ·exact leaf_two l
   decide
  refine ⟨half_off h.toHalf hs ⟨hl,fun y hy u=>?_⟩ (fun x u=>nmd_kind hs (hz x u)) fun x u=>valid_kind (by rw [hl];exact u.2.1) (hz x u),?_⟩
  ·obtain ⟨w1,w2⟩:=on_way hN hy u
   have:=hy.le
   rw [hat,if_neg (by omega),if_neg (by rw [show ((y.toNat:Nat):Int)=y by omega];exact w2)]
  refine trim_more' h.toHalf h.tr hs hl (fun e=>by rw [e] at hN2;simp only [List.length_nil] at hN2;omega) fun x hx hk=>?_
  rw [hat]
  by_cases z:x=(2*i).toNat
  ·rw [if_pos z]
  rw [if_neg z,if_neg]
  ·exact hk
  intro y
  have:=(dir_all hN _ y).2.2.1
  have:=ok_kind (trIs_ok h.is x)
  omega
 rw [cha_no q]
 exact good_nil
theorem good_com {a:List Nd} {i:Int} {l:Lf} {ks:List (List Int)} (h:Good a):Good (comL a i l ks):=by
 by_cases q:comE a i l ks=0
 ·have hs:=comL_is h.is i l ks
  obtain ⟨q1,q2,q3,q4⟩:=comE_ok q
  obtain ⟨hlf,_⟩:=srcE_ok q2
  obtain ⟨hN,hk⟩:=had_node h.is q1
  have hN2:=hN.le
  have e:comL a i l ks=(planP a i ks).set (2*i).toNat (leafN l):=com_ok q
  have hPl:=planP_len q3
  have hl:(comL a i l ks).length=a.length:=by rw [e,List.length_set,hPl]
  have hv:=plan_all h.is q3 e (leaf_ok hlf) rfl rfl q4 (half_ver h.toHalf)
  have hrest:=fun x (hx:isN x (a.length:Int))=>plan_rest h.is q3 e hx
  have hleaf:atN (comL a i l ks) (2*i).toNat=leafN l:=by rw [e,atN_set (by omega),if_pos rfl]
  refine ⟨half_off h.toHalf hs ⟨hl,fun y hy u=>(hrest y hy).1 u⟩ (fun x u=>?_) (fun x u=>?_),?_⟩
  ·have hx:=u.2.1
   rcases (und_dir hN hx).2 u with z | z
   ·exact nmd_kind hs (by rw [←z,hleaf];exact leaf_two l)
   by_cases f:x∈(forkL a i).map Prod.fst
   ·obtain ⟨k,hk,ek⟩:=mem_getD f
    rw [List.length_map] at hk
    have h1:=(plan_link h.is q3 e rfl rfl q4 hk).2
    rw [plan_at_k h.is q3 hk,ek] at h1
    exact nmd_none (by rw [h1])
   have:=(hrest x hx).2 u (dir_all hN x z).2.2.1 f
   exact nmd_kind hs (by omega)
  ·have hx:=u.2.1.le
   have:=hv x.toNat (by omega)
   rwa [show ((x.toNat:Nat):Int)=x by omega] at this
  refine trim_more' h.toHalf h.tr hs hl (fun e=>by rw [e] at hN2;simp only [List.length_nil] at hN2;omega) fun x hx hk=>?_
  by_cases z:x=(2*i).toNat
  ·rw [z,hleaf]
  have hx2:isN (x:Int) (a.length:Int):=isN_of h.is (by omega) (by omega)
  have ho:=ok_kind (trIs_ok h.is x)
  have:=(hrest x hx2).1 fun u=>by
   rcases (und_dir hN hx2).2 u with y | y
   ·omega
   have:=(dir_all hN _ y).2.2.1
   omega
  rw [show ((x:Int)).toNat=x by omega] at this
  rw [this]
  exact hk
 rw [comi_no q]
 exact good_nil
-- a leaf more
/-- Those of even number that are told below a node rise. -/
theorem evens_rise {t:List Nd} (ht:trIs t) (nm:∀ x,isN x (t.length:Int)→nmd t x) {c:Int} (hc:isN c (t.length:Int)):Rising ((resL t c).filter fun y=>decide (y % 2=0))∧∀ y∈resL t c,y % 2=0→undI y c t.length :=
 hi_all (P:=fun c=>Rising ((resL t c).filter fun y=>decide (y % 2=0))∧∀ y∈resL t c,y % 2=0→undI y c t.length)
  (fun x h k e=>by
   have hr:resL t x=nodeR t x:=res_one h k
   have hm:∀ u∈(atN t x.toNat).inner.unm,undI (2*u) x t.length:=fun u hu=>(nm x h u hu).1
   have hmap:Rising ((atN t x.toNat).inner.unm.map (2*·)):=by
    have hu:Rising (atN t x.toNat).inner.unm:=by
     by_cases k2:(atN t x.toNat).kind=2
     ·exact (pnCheck_nums (nd_ok_inner (trIs_ok ht x.toNat).1 k2).1).2
     rw [unm_kind (trIs_ok ht x.toNat).1 k2]
     exact List.Pairwise.nil
    exact List.pairwise_map.2 (hu.imp fun q=>by omega)
   have hall:((atN t x.toNat).inner.unm.map (2*·)).filter (fun y=>decide (y % 2=0))=(atN t x.toNat).inner.unm.map (2*·):=List.filter_eq_self.2 fun y hy=>by
    obtain ⟨u,_,rfl⟩:=List.mem_map.1 hy
    exact decide_eq_true (by omega)
   rw [hr]
   refine ⟨?_,fun y hy _=>?_⟩
   ·unfold nodeR
    rw [List.filter_cons,hall]
    by_cases o:x % 2=0
    ·have k2:¬(atN t x.toNat).kind=2:=fun q=>inner_odd ht h q o
     rw [if_pos (decide_eq_true o),unm_kind (trIs_ok ht x.toNat).1 k2]
     exact List.pairwise_singleton _ _
    rw [if_neg (by simpa using o)]
    exact hmap
   rcases List.mem_cons.1 hy with z | z
   ·rw [z]
    exact und_refl h
   obtain ⟨u,hu,rfl⟩:=List.mem_map.1 z
   exact hm u hu)
  (fun x h k lv e=>by
   have hr:resL t x=[]:=by
    unfold resL
    rw [e]
    rfl
   rw [hr]
   exact ⟨List.Pairwise.nil,fun y hy=>by cases hy⟩)
  (fun x h k lv e ha hb a b=>by
   rw [res_both h k]
   refine ⟨?_,fun y hy ye=>?_⟩
   ·rw [List.filter_append]
    refine List.pairwise_append.2 ⟨a.1,b.1,fun p hp q hq=>?_⟩
    obtain ⟨p1,p2⟩:=List.mem_filter.1 hp
    obtain ⟨q1,q2⟩:=List.mem_filter.1 hq
    have u1:=a.2 p p1 (of_decide_eq_true p2)
    have u2:=b.2 q q1 (of_decide_eq_true q2)
    have:=und_left h lv u1
    have:=(und_all h lv u2.1).2.2 u2
    omega
   rcases List.mem_append.1 hy with z | z
   ·exact (und_kids h lv).2 (.inr (.inl (a.2 y z ye)))
   exact (und_kids h lv).2 (.inr (.inr (b.2 y z ye)))) hc
def putL (t:List Nd) (i:Int) (l:Lf):List Nd:=laidL (joinW i (dirI (2*i) t.length) t) i l
/-- A leaf may be laid where none is. -/
structure PutH (t:List Nd) (i:Int) (l:Lf):Prop where
 ht:trIs t
 hN:isN (2*i) (t.length:Int)
 hz:atN t (2*i).toNat=Nd.zero
 hlf:lfCheck l=0
theorem put_len (t:List Nd) (i:Int) (l:Lf):(putL t i l).length=t.length:=by rw [putL,laid_len,joinW_len]
section
variable {t:List Nd} {i:Int} {l:Lf} (HH:PutH t i l)
include HH
theorem put_is:trIs (putL t i l):=by
 have:=HH.hN.le
 exact laid_is (joinW_is (by omega) (by omega) _ HH.ht) HH.hlf (by omega)
theorem put_at {x:Int} (hx:isN x (t.length:Int)):atN (putL t i l) x.toNat=if x=2*i then leafN l else if x∈dirI (2*i) (t.length:Int) then joinN i (atN t x.toNat) else atN t x.toNat:=by
 have h0:=HH.hN.le
 have h1:=hx.le
 rw [putL,laid_at (by rw [joinW_len];omega),joinW_at _ _ _ _ (fun d hd=>(dir_all HH.hN d hd).1),show ((x.toNat:Nat):Int)=x by omega]
 by_cases z:x=2*i
 ·rw [if_pos z,if_pos (by rw [z])]
 rw [if_neg z,if_neg (by omega)]
theorem put_kind {x:Int} (hx:isN x (t.length:Int)) (h:¬x=2*i):(atN (putL t i l) x.toNat).kind=(atN t x.toNat).kind:=by
 rw [put_at HH hx,if_neg h]
 split
 ·exact joinN_kind _ _
 rfl
theorem put_says {x:Int} (hx:isN x (t.length:Int)) (h:¬x=2*i):saysN (atN (putL t i l) x.toNat)=saysN (atN t x.toNat)∧∀ H,ofParentO (atN (putL t i l) x.toNat).inner H=ofParentO (atN t x.toNat).inner H:=by
 rw [put_at HH hx,if_neg h]
 split
 ·unfold joinN
  split
  ·exact ⟨rfl,fun H=>rfl⟩
  exact ⟨rfl,fun H=>rfl⟩
 exact ⟨rfl,fun H=>rfl⟩
theorem put_unm {x u:Int} (hx:isN x (t.length:Int)) (h:¬x=2*i):u∈(atN (putL t i l) x.toNat).inner.unm↔u∈(atN t x.toNat).inner.unm∨(u=i∧x∈dirI (2*i) (t.length:Int)∧(atN t x.toNat).kind=2):=by
 rw [put_at HH hx,if_neg h]
 by_cases d:x∈dirI (2*i) (t.length:Int)
 ·rw [if_pos d]
  unfold joinN
  split
  ·rename_i k
   rw [joinK_mem]
   exact ⟨fun q=>q.imp id fun z=>⟨z,d,k⟩,fun q=>q.imp id fun z=>z.1⟩
  rename_i k
  exact ⟨.inl,fun q=>q.resolve_right fun z=>k z.2.2⟩
 rw [if_neg d]
 exact ⟨.inl,fun q=>q.resolve_right fun z=>d z.2.1⟩
theorem put_off:offW i t (putL t i l):=⟨put_len t i l,fun y hy u=>by
 obtain ⟨w1,w2⟩:=on_way HH.hN hy u
 rw [put_at HH hy,if_neg w1,if_neg w2]⟩
variable (nm:∀ x,isN x (t.length:Int)→nmd t x)
include nm
theorem not_named {x:Int} (hx:isN x (t.length:Int)):i∉(atN t x.toNat).inner.unm:=fun q=>by
 have:=(nm x hx i q).2.1
 rw [HH.hz] at this
 exact absurd this (by decide)
theorem put_nmd {x:Int} (hx:isN x (t.length:Int)):nmd (putL t i l) x:=by
 have hl:=put_len t i l
 by_cases h:x=2*i
 ·refine nmd_kind (put_is HH) ?_
  rw [put_at HH hx,if_pos h]
  exact leaf_two l
 intro u hu
 rw [hl]
 have hodd:∀ p,isN p (t.length:Int)→(atN (putL t i l) p.toNat).kind=2→¬p=2*i:=fun p hp pk q=>by
  have:=inner_odd (put_is HH) (by rw [hl];exact hp) pk
  omega
 rcases (put_unm HH hx h).1 hu with q | ⟨q,d,k⟩
 ·obtain ⟨h1,h2,h3⟩:=nm x hx u q
  have hne:¬2*u=2*i:=fun e=>by
   rw [e,HH.hz] at h2
   exact absurd h2 (by decide)
  refine ⟨h1,by rw [put_kind HH h1.1 hne];exact h2,fun p p1 p2 pk=>?_⟩
  have hp:=hodd p p2.1 pk
  rw [put_kind HH p2.1 hp] at pk
  exact (put_unm HH p2.1 hp).2 (.inl (h3 p p1 p2 pk))
 subst q
 refine ⟨(und_dir HH.hN hx).1 (.inr d),by rw [put_at HH HH.hN,if_pos rfl],fun p p1 p2 pk=>?_⟩
 have hp:=hodd p p2.1 pk
 rw [put_kind HH p2.1 hp] at pk
 exact (put_unm HH p2.1 hp).2 (.inr ⟨rfl,((und_dir HH.hN p2.1).2 p1).resolve_left fun e=>hp e.symm,pk⟩)
omit nm in
theorem hi_put {c:Int} (hc:isN c (t.length:Int)):(∀ k∈hiL t c,k∈hiL (putL t i l) c)∧∀ k∈hiL (putL t i l) c,k∈hiL t c∨k=2*i:=by
 have hl:=put_len t i l
 refine hi_all (P:=fun c=>(∀ k∈hiL t c,k∈hiL (putL t i l) c)∧∀ k∈hiL (putL t i l) c,k∈hiL t c∨k=2*i) (fun x h k e=>?_) (fun x h k lv e=>?_) (fun x h k lv e hl1 hr1 a b=>?_) hc
 ·have hne:¬x=2*i:=fun q=>by
   rw [q,HH.hz] at k
   exact k rfl
  have e2:hiL (putL t i l) x=[x]:=by rw [hi_eq,hi_one (by rw [hl];exact h) (by rw [put_kind HH h hne];exact k)]
  rw [e,e2]
  exact ⟨fun k q=>q,fun k q=>.inl q⟩
 ·by_cases hne:x=2*i
  ·have e2:hiL (putL t i l) x=[x]:=by
    rw [hi_eq,hi_one (by rw [hl];exact h)]
    rw [put_at HH h,if_pos hne]
    exact leaf_nil l
   rw [e,e2]
   exact ⟨fun k q=>(by cases q),fun k q=>.inr (by rw [List.mem_singleton.1 q];exact hne)⟩
  have e2:hiL (putL t i l) x=[]:=hi_leaf (by rw [hl];exact h) (by rw [put_kind HH h hne];exact k) ((even_lvl h).2 lv)
  rw [e,e2]
  exact ⟨fun k q=>q,fun k q=>(by cases q)⟩
 have hne:¬x=2*i:=fun q=>lv ((even_lvl h).1 (by omega))
 rw [e,hi_both (t:=putL t i l) (x:=x) (by rw [hl];exact h) (by rw [put_kind HH h hne];exact k),hl]
 refine ⟨fun k q=>?_,fun k q=>?_⟩
 ·rcases List.mem_append.1 q with z | z
  ·exact List.mem_append.2 (.inl (a.1 k z))
  exact List.mem_append.2 (.inr (b.1 k z))
 rcases List.mem_append.1 q with z | z
 ·exact (a.2 k z).imp (fun y=>List.mem_append.2 (.inl y)) id
 exact (b.2 k z).imp (fun y=>List.mem_append.2 (.inr y)) id
omit nm in
theorem put_leaf:atN (putL t i l) (2*i).toNat=leafN l:=by rw [put_at HH HH.hN,if_pos rfl]
omit nm in
theorem res_put {c y:Int} (hc:isN c (t.length:Int)):y∈resL (putL t i l) c↔y∈resL t c∨(y=2*i∧undI (2*i) c t.length):=by
 have hl:=put_len t i l
 obtain ⟨f1,f2⟩:=hi_put HH hc
 have hne:∀ k∈hiL t c,¬k=2*i:=fun k hk q=>by
  have:=(hi_in hk).2.2.1
  rw [q,HH.hz] at this
  exact this rfl
 constructor
 ·intro h
  obtain ⟨j,hj,e | ⟨u,hu,e⟩⟩:=mem_res.1 h
  ·rcases f2 j hj with q | q
   ·exact .inl (mem_res.2 ⟨j,q,.inl e⟩)
   refine .inr ⟨by rw [e,q],?_⟩
   have:=(hi_in hj).2.2.2
   rwa [q,hl] at this
  rcases f2 j hj with q | q
  ·rcases (put_unm HH (hi_in q).2.1 (hne j q)).1 hu with z | ⟨z,d,_⟩
   ·exact .inl (mem_res.2 ⟨j,q,.inr ⟨u,z,e⟩⟩)
   exact .inr ⟨by rw [e,z],und_up ((und_dir HH.hN (hi_in q).2.1).1 (.inr d)) (hi_in q).2.2.2⟩
  rw [q,put_leaf HH] at hu
  cases hu
 rintro (h | ⟨rfl,h⟩)
 ·obtain ⟨j,hj,e | ⟨u,hu,e⟩⟩:=mem_res.1 h
  ·exact mem_res.2 ⟨j,f1 j hj,.inl e⟩
  exact mem_res.2 ⟨j,f1 j hj,.inr ⟨u,(put_unm HH (hi_in hj).2.1 (hne j hj)).2 (.inl hu),e⟩⟩
 have hcnt:=hi_cnt (t:=putL t i l) (x:=c) (y:=2*i) (by rw [hl];exact hc) (by rw [put_leaf HH];exact leaf_nil l) (by rw [hl];exact h)
 have hpos:0<cntU (2*i) (putL t i l).length (hiL (putL t i l) c):=by omega
 obtain ⟨k,hk⟩:=List.exists_mem_of_length_pos hpos
 obtain ⟨k1,k2⟩:=List.mem_filter.1 hk
 have k2:=of_decide_eq_true k2
 have hkk:=hi_in k1
 rw [hl] at k2
 have hkn:=k2.2.1
 rcases (und_dir HH.hN hkn).2 k2 with q | q
 ·exact mem_res.2 ⟨k,k1,.inl q⟩
 have hk0:=(dir_all HH.hN k q).2.2.1
 have hne2:¬k=2*i:=by omega
 have k3:=hkk.2.2.1
 rw [put_kind HH hkn hne2] at k3
 have:=ok_kind (trIs_ok HH.ht k.toNat)
 have hkl:=hkn.le
 exact mem_res.2 ⟨k,k1,.inr ⟨i,(put_unm HH hkn hne2).2 (.inr ⟨rfl,q,by omega⟩),rfl⟩⟩
theorem put_drop {x y:Int} (hx:isN x (t.length:Int)) (hd:x∈dirI (2*i) (t.length:Int)) (hk:(atN t x.toNat).kind=2) (hy:isN y (t.length:Int)):atN (dropL (atN (putL t i l) x.toNat).inner.unm (putL t i l)) y.toNat=atN (dropL (atN t x.toNat).inner.unm t) y.toNat:=by
 have hl:=put_len t i l
 have hN0:=HH.hN.le
 have hy0:=hy.le
 have hx1:=(dir_all HH.hN x hd).2.2.1
 have hU:∀ u,u∈(atN (putL t i l) x.toNat).inner.unm↔u∈(atN t x.toNat).inner.unm∨u=i:=fun u=>by
  rw [put_unm HH hx (by omega)]
  exact ⟨fun q=>q.imp id fun z=>z.1,fun q=>q.imp id fun z=>⟨z,hd,hk⟩⟩
 generalize (atN (putL t i l) x.toNat).inner.unm=U' at hU
 generalize (atN t x.toNat).inner.unm=U at hU
 rw [drop_at (by omega),drop_at (by omega)]
 by_cases h:y=2*i
 ·subst h
  rw [HH.hz]
  have e1:zapN U' (2*i).toNat (atN (putL t i l) (2*i).toNat)=Nd.zero:=by
   unfold zapN
   rw [if_pos ⟨by omega,(hU _).2 (.inr (by omega))⟩]
  have e2:zapN U (2*i).toNat Nd.zero=Nd.zero:=by
   unfold zapN
   split<;>rfl
  rw [e1,e2,cutN_zero,cutN_zero]
 have hg:goneAt U' y.toNat↔goneAt U y.toNat:=by
  unfold goneAt
  rw [hU]
  constructor
  ·rintro ⟨a,b | b⟩
   ·exact ⟨a,b⟩
   omega
  exact fun q=>⟨q.1,.inl q.2⟩
 unfold zapN
 by_cases g:goneAt U y.toNat
 ·rw [if_pos g,if_pos (hg.2 g),cutN_zero,cutN_zero]
 rw [if_neg g,if_neg (fun q=>g (hg.1 q))]
 have hni:=not_named HH nm hy
 have e3:cutK (atN t y.toNat).inner.unm U'=cutK (atN t y.toNat).inner.unm U:=by
  unfold cutK
  refine List.filter_congr fun u hu=>decide_eq_decide.2 (not_congr ?_)
  rw [hU]
  exact ⟨fun q=>q.resolve_right fun z=>hni (z▸hu),.inl⟩
 rw [put_at HH hy,if_neg h]
 by_cases d:y∈dirI (2*i) (t.length:Int)
 ·rw [if_pos d]
  unfold joinN
  by_cases k:(atN t y.toNat).kind=2
  ·rw [if_pos k]
   unfold cutN
   have e4:cutK (joinK (atN t y.toNat).inner.unm i) U'=cutK (atN t y.toNat).inner.unm U:=by
    have hr:Rising (atN t y.toNat).inner.unm:=(pnCheck_nums (nd_ok_inner (trIs_ok HH.ht y.toNat).1 k).1).2
    refine rising_ext (cutK_rising (joinK_rising _ _)) (cutK_rising hr) fun u=>?_
    rw [cutK_mem,cutK_mem,joinK_mem,hU]
    constructor
    ·rintro ⟨a,b⟩
     exact ⟨a.resolve_right fun z=>b (.inr z),fun z=>b (.inl z)⟩
    rintro ⟨a,b⟩
    exact ⟨.inl a,fun z=>z.elim b fun z=>hni (z▸a)⟩
   simp only [e4]
  rw [if_neg k]
  unfold cutN
  rw [e3]
 rw [if_neg d]
 unfold cutN
 rw [e3]
theorem put_link {x c d:Int} (hd:x∈dirI (2*i) (t.length:Int)) (h:linkL t x c d):linkL (putL t i l) x c d:=by
 have hl:=put_len t i l
 have his:=put_is HH
 have hdh:=link_hi HH.ht h
 obtain ⟨hx,hk,hc,hm,he,hy⟩:=h
 have ho:=inner_odd HH.ht hx hk
 have hxne:¬x=2*i:=by omega
 obtain ⟨⟨a1,a2⟩,_,_,b1,b2,_⟩:=kids_up (y:=x) hx ho
 have hcn:isN c (t.length:Int)∧isN (sibI c t.length) (t.length:Int):=by
  rcases hc with e | e
  ·rw [e,b1]
   exact ⟨a1,a2⟩
  rw [e,b2]
  exact ⟨a2,a1⟩
 have hdn:=hi_in hdh
 have hdne:¬d=2*i:=fun q=>by
  have:=hdn.2.2.1
  rw [q,HH.hz] at this
  exact this rfl
 have hcs:isN c ((putL t i l).length:Int):=by rw [hl];exact hcn.1
 refine ⟨by rw [hl];exact hx,by rw [put_kind HH hx hxne];exact hk,by rw [hl];exact hc,(res_put HH hcn.1).2 (.inl hm),?_,?_⟩
 ·-- all others are just those that it does not know
  have hev:∀ y∈resL (putL t i l) c,¬y=d→y % 2=0:=fun y hy q=>by
   rcases (res_put HH hcn.1).1 hy with z | z
   ·have hin:y∈cutK (resL t c) [d]:=cutK_mem.2 ⟨z,fun w=>q (by simpa using w)⟩
    rw [he] at hin
    obtain ⟨u,_,e⟩:=List.mem_map.1 (List.mem_filter.1 hin).1
    omega
   omega
  have e1:cutK (resL (putL t i l) c) [d]=cutK ((resL (putL t i l) c).filter fun y=>decide (y % 2=0)) [d]:=by
   unfold cutK
   rw [List.filter_filter]
   refine List.filter_congr fun y hy=>?_
   by_cases q:y=d
   ·simp [q]
   simp [q,hev y hy q]
  have hR:Rising (unmB (putL t i l) x c):=by
   have hu:Rising (atN (putL t i l) x.toNat).inner.unm:=(pnCheck_nums (nd_ok_inner (trIs_ok his x.toNat).1 (by rw [put_kind HH hx hxne];exact hk)).1).2
   unfold unmB unmO
   exact List.Pairwise.filter _ (List.pairwise_map.2 (hu.imp fun q=>by omega))
  rw [e1]
  refine rising_ext (cutK_rising (evens_rise his (fun x hx=>put_nmd HH nm (by rw [hl] at hx;exact hx)) hcs).1) hR fun y=>?_
  rw [←e1,cutK_mem,res_put HH hcn.1]
  have hold:y∈unmB t x c↔y∈resL t c∧¬y=d:=by
   rw [←he,cutK_mem]
   simp
  have hnew:y∈unmB (putL t i l) x c↔y∈unmB t x c∨(y=2*i∧undI (2*i) c t.length):=by
   unfold unmB unmO
   rw [List.mem_filter,List.mem_filter,List.mem_map,List.mem_map,hl,decide_eq_true_iff]
   constructor
   ·rintro ⟨⟨u,hu,rfl⟩,q⟩
    rcases (put_unm HH hx hxne).1 hu with z | ⟨z,_⟩
    ·exact .inl ⟨⟨u,z,rfl⟩,q⟩
    exact .inr ⟨by rw [z],z▸q⟩
   rintro (⟨⟨u,hu,rfl⟩,q⟩ | ⟨rfl,q⟩)
   ·exact ⟨⟨u,(put_unm HH hx hxne).2 (.inl hu),rfl⟩,q⟩
   exact ⟨⟨i,(put_unm HH hx hxne).2 (.inr ⟨rfl,hd,hk⟩),rfl⟩,q⟩
  rw [hnew,hold]
  constructor
  ·rintro ⟨a | a,b⟩
   ·exact .inl ⟨a,fun z=>b (by simp [z])⟩
   exact .inr a
  rintro (⟨a,b⟩ | a)
  ·exact ⟨.inl a,fun z=>b (by simpa using z)⟩
  exact ⟨.inr a,fun z=>hdne ((List.mem_singleton.1 z).symm.trans a.1)⟩
 ·rw [(put_says HH hdn.2.1 hdne).1,hy,hl]
  unfold givesL
  rw [(put_says HH hx hxne).2,ofH_yes (by rw [dropL_len];exact hcn.2),ofH_yes (by rw [dropL_len,hl];exact hcn.2)]
  refine congrArg _ (congrArg _ (hs_congr (by rw [dropL_len,dropL_len,hl]) (by rw [dropL_len];exact hcn.2) fun y uy=>?_))
  rw [dropL_len] at uy
  exact (put_drop HH nm hx hd hk uy.1).symm
end
theorem half_put {t:List Nd} {i:Int} {l:Lf} (h:Half t) (hN:isN (2*i) (t.length:Int)) (hz:atN t (2*i).toNat=Nd.zero) (hlf:lfCheck l=0):Half (putL t i l):=by
 have HH:PutH t i l:=⟨h.is,hN,hz,hlf⟩
 have his:=put_is HH
 have hl:=put_len t i l
 refine half_off h his (put_off HH) (fun x u=>put_nmd HH h.nm u.2.1) fun x u=>?_
 have hx:=u.2.1
 rcases (und_dir hN hx).2 u with q | q
 ·exact valid_kind (by rw [hl];exact hx) (by rw [←q,put_leaf HH];exact leaf_two l)
 have hne:¬x=2*i:=by
  have:=(dir_all hN x q).2.2.1
  omega
 refine ⟨by rw [hl];exact hx,fun k=>?_⟩
 rw [put_kind HH hx hne] at k
 rw [hl]
 refine ((h.ok x hx).2 k).imp ?_ ?_
 ·rintro ⟨d,_,hd⟩
  have:=put_link HH h.nm q hd
  exact ⟨d,this.2.2.2.1,this⟩
 rintro ⟨d,_,hd⟩
 have:=put_link HH h.nm q hd
 exact ⟨d,this.2.2.2.1,this⟩
theorem good_add {a:List Nd} {l:Lf} (h:Good a):Good (addL a l):=by
 by_cases q:addE a l=0
 ·have his:=addL_is h.is l
  obtain ⟨hlf,_,hr⟩:=addE_ok q
  obtain ⟨r0,r1,r2,r3,r4,r5,r6,r7,r8⟩:=room_ok h.is hr
  have e:addL a l=putL (roomL a) (freeA (roomL a)) l:=(add_ok q).2
  have HH:PutH (roomL a) (freeA (roomL a)) l:=⟨r0,r4,r5,hlf⟩
  have hl:=put_len (roomL a) (freeA (roomL a)) l
  refine ⟨by rw [e];exact half_put (half_room h.toHalf hr) r4 r5 hlf,?_⟩
  rw [e] at his ⊢
  have hle:=r4.le
  by_cases z:freeA a=-1
  ·obtain ⟨z1,z2⟩:=room_no z
   rw [z1] at hr
   obtain ⟨g1,g2,g3⟩:=grown h.is hr
   have e1:=leavesA_eq a
   have hfree:freeA (roomL a)=(leavesA a:Int):=by rw [z2];exact free_grown h.is z hr
   have hlen:=trIs_len h.is
   have hrt:rootI ((putL (roomL a) (freeA (roomL a)) l).length:Int)=((a.length:Nat):Int):=by
    have hgl:(roomL a).length=2*a.length+1:=by rw [z2];omega
    rw [hl,hgl,root_is (by unfold isW;omega)]
    omega
   exact trim_id his (x:=(2*freeA (roomL a)).toNat) (by omega) (by rw [put_leaf HH]) (by rw [hrt];omega)
  obtain ⟨_,z2⟩:=room_yes z
  rw [z2] at r4 HH hl his ⊢
  have hle:=r4.le
  refine trim_more' h.toHalf h.tr his hl (fun e=>by rw [e] at hle;simp only [List.length_nil] at hle;omega) fun x hx hk=>?_
  have hx2:isN (x:Int) (a.length:Int):=isN_of h.is (by omega) (by omega)
  by_cases y:(x:Int)=2*freeA a
  ·have:=put_leaf HH
   rw [←y] at this
   simp only [Int.toNat_natCast] at this
   rw [this]
  have:=put_kind HH hx2 y
  simp only [Int.toNat_natCast] at this
  rw [this]
  exact hk
 rw [(add_no q).2]
 exact good_nil
end Go.Proofs.YtfdmhdnlmndhdaaGreatDoor
