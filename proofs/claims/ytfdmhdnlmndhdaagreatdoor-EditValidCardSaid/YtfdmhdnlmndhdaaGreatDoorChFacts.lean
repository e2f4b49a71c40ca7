/-
  What the statements of layer 13 ask of who made which node: pure.
-/
import Derived.Test.YtfdmhdnlmndhdaaGreatDoorChMath
namespace Go.Proofs.YtfdmhdnlmndhdaaGreatDoor
open Go.ChangeShapes Go.WideShapes Go.ChangeAt Go.RowKit
set_option linter.unusedVariables false

-- what is below alone matters
section
variable {t s:List Nd} (hl:t.length=s.length)
include hl
theorem hs_congr {x:Int} (hx:isN x (t.length:Int)):(∀ y,undI y x t.length→atN t y.toNat=atN s y.toNat)→hsL t x=hsL s x :=
 hs_all (P:=fun x=>(∀ y,undI y x t.length→atN t y.toNat=atN s y.toNat)→hsL t x=hsL s x)
  (fun x h e f=>by rw [hs_leaf h e,hs_leaf (by rw [←hl];exact h) e,f x (und_refl h)])
  (fun x h e _ _ a b f=>by
   have hk:∀ y,undI y (leftI x t.length) t.length∨undI y (rightI x t.length) t.length→undI y x t.length:=fun y q=>(und_kids h (fun z=>e ((even_lvl h).2 z))).2 (.inr q)
   rw [hs_inner h e,hs_inner (by rw [←hl];exact h) e,f x (und_refl h),a fun y q=>f y (hk y (.inl q)),b fun y q=>f y (hk y (.inr q)),hl]) hx
theorem hi_congr {x:Int} (hx:isN x (t.length:Int)):(∀ y,undI y x t.length→atN t y.toNat=atN s y.toNat)→hiL t x=hiL s x :=
 hi_all (P:=fun x=>(∀ y,undI y x t.length→atN t y.toNat=atN s y.toNat)→hiL t x=hiL s x)
  (fun x h k e f=>by
   have hs:isN x (s.length:Int):=by rw [←hl];exact h
   rw [e,hi_eq s,hi_one hs (by rw [←f x (und_refl h)];exact k)])
  (fun x h k lv e f=>by
   have hs:isN x (s.length:Int):=by rw [←hl];exact h
   rw [e,hi_leaf hs (by rw [←f x (und_refl h)];exact k) ((even_lvl h).2 lv)])
  (fun x h k lv e _ _ a b f=>by
   have hs:isN x (s.length:Int):=by rw [←hl];exact h
   have hk:∀ y,undI y (leftI x t.length) t.length∨undI y (rightI x t.length) t.length→undI y x t.length:=fun y q=>(und_kids h lv).2 (.inr q)
   rw [e,hi_both hs (by rw [←f x (und_refl h)];exact k),a fun y q=>f y (hk y (.inl q)),b fun y q=>f y (hk y (.inr q)),hl]) hx
theorem res_congr {x:Int} (hx:isN x (t.length:Int)) (f:∀ y,undI y x t.length→atN t y.toNat=atN s y.toNat):resL t x=resL s x:=by
 have e:∀ k∈hiL t x,nodeR t k=nodeR s k:=fun k hk=>by
  unfold nodeR
  rw [f k (hi_in hk).2.2.2]
 unfold resL resOf
 rw [←hi_congr hl hx f]
 generalize hiL t x=l at e
 induction l with
 | nil=>rfl
 | cons k l ih=>rw [List.flatMap_cons,List.flatMap_cons,e k (by simp),ih fun q hq=>e q (by simp [hq])]
theorem drop_congr {l:List Int} {y:Int} (hy:isN y (t.length:Int)) (f:atN t y.toNat=atN s y.toNat):atN (dropL l t) y.toNat=atN (dropL l s) y.toNat:=by
 have:=hy.le
 rw [drop_at (by omega),drop_at (by omega),f]
theorem gives_below {x b:Int} (hx:atN t x.toNat=atN s x.toNat) (f:∀ y,undI y b t.length→atN t y.toNat=atN s y.toNat):givesL t x b=givesL s x b :=
 gives_congr hl hx fun hb=>hs_congr (by rw [dropL_len,dropL_len];exact hl) (by rw [dropL_len];exact hb) fun y hy=>by
  rw [dropL_len] at hy
  exact drop_congr hl hy.1 (f y hy)
end
theorem kids_up {x y w:Int} (h:isN x w) (ho:¬x % 2=0):(isN (leftI x w) w∧isN (rightI x w) w)∧(undI y (leftI x w) w→undI y x w)∧(undI y (rightI x w) w→undI y x w)∧sibI (leftI x w) w=rightI x w∧sibI (rightI x w) w=leftI x w∧parI (leftI x w) w=x∧parI (rightI x w) w=x:=by
 have hz:¬lvl x=0:=fun q=>ho ((even_lvl h).2 q)
 have hk:=odd_kids h ho
 have hs:lvl x≠0→sibI (leftI x w) w=rightI x w∧sibI (rightI x w) w=leftI x w∧parI (leftI x w) w=x∧parI (rightI x w) w=x :=
  fin2 (p:=fun x w=>lvl x≠0→sibI (leftI x w) w=rightI x w∧sibI (rightI x w) w=leftI x w∧parI (leftI x w) w=x∧parI (rightI x w) w=x) (by kernel_rfl) h
 exact ⟨⟨hk.1.1,hk.2.1⟩,fun u=>(und_kids h hz).2 (.inr (.inl u)),fun u=>(und_kids h hz).2 (.inr (.inr u)),hs hz⟩
/-- A link's maker is one of those told below the child. -/
theorem link_hi {t:List Nd} {x c d:Int} (ht:trIs t) (h:linkL t x c d):d∈hiL t c:=by
 obtain ⟨_,_,_,hm,hc,_⟩:=h
 obtain ⟨j,hj,e | ⟨u,hu,e⟩⟩:=mem_res.1 hm
 ·exact e▸hj
 by_cases q:j=d
 ·exact q▸hj
 have hin:j∈cutK (resL t c) [d]:=cutK_mem.2 ⟨mem_res.2 ⟨j,hj,.inl rfl⟩,fun z=>q (by simpa using z)⟩
 rw [hc] at hin
 obtain ⟨v,_,ev⟩:=List.mem_map.1 (List.mem_filter.1 hin).1
 have hk:=unm_kind (trIs_ok ht j.toNat).1
 have ho:=ok_kind (trIs_ok ht j.toNat)
 have hle:=(hi_in hj).2.1.le
 have h2:¬(atN t j.toNat).kind=2:=by omega
 rw [hk h2] at hu
 cases hu
theorem link_congr {t s:List Nd} (ht:trIs t) (hs:trIs s) (hl:t.length=s.length) {x c d:Int} (f:∀ y,undI y x t.length→atN t y.toNat=atN s y.toNat) (h:linkL t x c d):linkL s x c d:=by
 have hd:=link_hi ht h
 obtain ⟨hx,hk,hc,hm,he,hy⟩:=h
 have ho:=inner_odd ht hx hk
 have hku:∀ y,undI y c t.length→undI y x t.length:=fun y u=>by
  obtain ⟨_,a,b,_⟩:=kids_up (y:=y) hx ho
  rcases hc with e | e
  ·exact a (e▸u)
  exact b (e▸u)
 have hcn:isN c (t.length:Int)∧isN (sibI c t.length) (t.length:Int)∧∀ y,undI y (sibI c t.length) t.length→undI y x t.length:=by
  obtain ⟨⟨a1,a2⟩,_,_,b1,b2,_⟩:=kids_up (y:=x) hx ho
  rcases hc with e | e
  ·rw [e,b1]
   exact ⟨a1,a2,fun y u=>(kids_up hx ho).2.2.1 u⟩
  rw [e,b2]
  exact ⟨a2,a1,fun y u=>(kids_up hx ho).2.1 u⟩
 have hxx:=f x (und_refl hx)
 have hr:resL t c=resL s c:=res_congr hl hcn.1 fun y u=>f y (hku y u)
 refine ⟨hl▸hx,hxx▸hk,hl▸hc,hr▸hm,?_,?_⟩
 ·rw [←hr,he]
  unfold unmB
  rw [hxx,hl]
 rw [←f d (hku d (hi_in hd).2.2.2),hy,←hl]
 exact gives_below hl hxx fun y u=>f y (hcn.2.2 y u)
theorem valid_congr' {t s:List Nd} (ht:trIs t) (hs:trIs s) (hl:t.length=s.length) {x:Int} (f:∀ y,undI y x t.length→atN t y.toNat=atN s y.toNat) (h:validL t x):validL s x:=by
 obtain ⟨hx,hk⟩:=h
 have hxx:=f x (und_refl hx)
 have hx2:isN x (s.length:Int):=by rw [←hl];exact hx
 have hg:∀ c d,linkL t x c d→d∈resL s c∧linkL s x c d:=fun c d h=>by
  have:=link_congr ht hs hl f h
  exact ⟨this.2.2.2.1,this⟩
 refine ⟨hx2,fun k=>?_⟩
 rw [←hxx] at k
 rw [←hl]
 refine (hk k).imp ?_ ?_
 ·rintro ⟨d,_,h⟩
  exact ⟨d,hg _ d h⟩
 rintro ⟨d,_,h⟩
 exact ⟨d,hg _ d h⟩
-- a way, and those beside it
def posI (x w:Int) (j:Nat):Int:=if j=0 then x else (dirI x w).getD (j-1) 0
def kidAt (x w:Int) (j:Nat):Prop:=((posI x w j=leftI ((dirI x w).getD j 0) w∧(copI x w).getD j 0=rightI ((dirI x w).getD j 0) w)∨(posI x w j=rightI ((dirI x w).getD j 0) w∧(copI x w).getD j 0=leftI ((dirI x w).getD j 0) w)) ∧
 sibI (posI x w j) w=(copI x w).getD j 0∧sibI ((copI x w).getD j 0) w=posI x w j∧isN ((dirI x w).getD j 0) w∧¬(dirI x w).getD j 0=x∧¬lvl ((dirI x w).getD j 0)=0
instance (x w:Int) (j:Nat):Decidable (kidAt x w j):=by unfold kidAt;infer_instance
theorem kid_at {x w:Int} (h:isN x w) {j:Nat} (hj:j<(dirI x w).length):kidAt x w j:=by
 have key:=fin2 (p:=fun x w=>(dirI x w).length≤6∧∀ i∈List.range 6,i<(dirI x w).length→kidAt x w i) (by kernel_rfl) h
 exact key.2 j (List.mem_range.2 (by omega)) hj
theorem way_not {x w:Int} (h:isN x w):x∉dirI x w:=fin2 (p:=fun x w=>x∉dirI x w) (by kernel_rfl) h
/-- Who is beside the way has nobody of the way below. -/
theorem beside_off {x b y w:Int} (h:isN x w) {j:Nat} (hj:j<(dirI x w).length) (e:b=(copI x w).getD j 0) (hy:undI y b w):¬undI x y w:=fun u =>
 (way_at h hj).2.2.2.2.2.1 (e▸und_up u hy)
theorem on_way {x y w:Int} (h:isN x w) (hy:isN y w) (u:¬undI x y w):¬y=x∧y∉dirI x w:=by
 have:=und_dir h hy
 exact ⟨fun e=>u (this.1 (.inl e.symm)),fun e=>u (this.1 (.inr e))⟩
theorem sib_way {x w:Int} (h:isN x w) {b:Int} (hb:b∈copI x w):sibI (sibI b w) w=b:=fin2 (p:=fun x w=>∀ b∈copI x w,sibI (sibI b w) w=b) (by kernel_rfl) h b hb
/-- The last of a way's first nodes that is not blank. -/
def topP (s:List Nd) (x w:Int):Nat→Int
 | 0=>x
 | j+1=>if (atN s ((dirI x w).getD j 0).toNat).kind=0 then topP s x w j else (dirI x w).getD j 0
theorem hi_way {s:List Nd} {x:Int} (h:isN x (s.length:Int)) (hk:¬(atN s x.toNat).kind=0) (hf:∀ j,j<(dirI x s.length).length→(atN s ((dirI x s.length).getD j 0).toNat).kind=0→hiL s ((copI x s.length).getD j 0)=[]) :
  ∀ j,j≤(dirI x s.length).length→hiL s (posI x s.length j)=[topP s x s.length j]
 | 0,_=>by
  show hiL s x=[x]
  rw [hi_eq,hi_one h hk]
 | j+1,hj=>by
  obtain ⟨hc,_,_,hn,_,hv⟩:=kid_at h (j:=j) (by omega)
  have ih:=hi_way h hk hf j (by omega)
  show hiL s ((dirI x s.length).getD j 0)=[if _ then _ else _]
  by_cases q:(atN s ((dirI x s.length).getD j 0).toNat).kind=0
  ·rw [if_pos q,hi_both hn q]
   have hb:=hf j (by omega) q
   rcases hc with ⟨a,b⟩ | ⟨a,b⟩
   ·rw [←a,←b,ih,hb]
    rfl
   rw [←a,←b,ih,hb]
   rfl
  rw [if_neg q,hi_eq,hi_one hn q]
theorem filter_at {α:Type} {p:α→Bool}:∀ {l:List α} {k:Nat},k<(l.filter p).length→∃ j,∃ (h:j<l.length),((l.take j).filter p).length=k∧(l.filter p)[k]?=some l[j]∧p l[j]=true
 | [],k,h=>absurd h (Nat.not_lt_zero _)
 | x::l,k,h=>by
  by_cases q:p x=true
  ·cases k with
   | zero=>exact ⟨0,by simp,by simp,by simp [q],by simpa using q⟩
   | succ k =>
    have h2:k<(l.filter p).length:=by
     rw [List.filter_cons_of_pos q] at h
     simpa using h
    obtain ⟨j,hj,a,b,c⟩:=filter_at h2
    refine ⟨j+1,by simp;omega,?_,?_,by simpa using c⟩
    ·rw [List.take_succ_cons,List.filter_cons_of_pos q,List.length_cons,a]
    rw [List.filter_cons_of_pos q]
    simpa using b
  have q':¬p x=true:=q
  rw [List.filter_cons_of_neg q'] at h
  obtain ⟨j,hj,a,b,c⟩:=filter_at h
  refine ⟨j+1,by simp;omega,?_,?_,by simpa using c⟩
  ·rw [List.take_succ_cons,List.filter_cons_of_neg q',a]
  rw [List.filter_cons_of_neg q']
  simpa using b
/-- A tree that is another one's but on a leaf's way up, and that leaf. -/
def offW (i:Int) (a s:List Nd):Prop:=s.length=a.length∧∀ y,isN y (a.length:Int)→¬undI (2*i) y a.length→atN s y.toNat=atN a y.toNat
section
variable {a s:List Nd} {i:Int} (hN:isN (2*i) (a.length:Int)) (h:offW i a s)
include hN h
theorem off_hi {j:Nat} (hj:j<(dirI (2*i) (a.length:Int)).length):hiL s ((copI (2*i) (a.length:Int)).getD j 0)=hiL a ((copI (2*i) (a.length:Int)).getD j 0):=by
 have hb:=(way_at hN hj).2.2.2.1
 exact (hi_congr h.1.symm hb fun y u=>(h.2 y u.1 (beside_off hN hj rfl u)).symm).symm
end
-- what is planned
theorem plan_out {a:List Nd} {y:Nat}:∀ {Z:List Zk},(∀ z∈Z,¬z.1.1.toNat=y)→atN (planF a Z).1 y=atN a y
 | [],_=>rfl
 | p::ps,h=>by
  have ih:=plan_out (a:=a) (Z:=ps) fun z hz=>h z (List.mem_cons_of_mem _ hz)
  have hp:=h p (by simp)
  show atN ((planF a ps).1.set _ _) y=_
  by_cases q:p.1.1.toNat<(planF a ps).1.length
  ·rw [atN_set q,if_neg (fun e=>hp e.symm),ih]
  rw [List.set_eq_of_length_le (by omega),ih]
theorem plan_tail {a:List Nd} {y:Nat}:∀ {Z:List Zk} {k:Nat},(∀ z∈Z.take k,¬z.1.1.toNat=y)→atN (planF a Z).1 y=atN (planF a (Z.drop k)).1 y
 | Z,0,_=>rfl
 | [],k+1,_=>rfl
 | p::ps,k+1,h=>by
  have ih:=plan_tail (a:=a) (Z:=ps) (k:=k) fun z hz=>h z (by simp [hz])
  have hp:=h p (by simp)
  show atN ((planF a ps).1.set _ _) y=_
  by_cases q:p.1.1.toNat<(planF a ps).1.length
  ·rw [atN_set q,if_neg (fun e=>hp e.symm),ih]
   rfl
  rw [List.set_eq_of_length_le (by omega),ih]
  rfl
theorem plan_at {a:List Nd}:∀ {Z:List Zk} {k:Nat} {z:Zk},(Z.map fun z=>z.1.1.toNat).Nodup→(∀ z∈Z,z.1.1.toNat<a.length)→Z[k]?=some z→atN (planF a Z).1 z.1.1.toNat=keyN z.2 (planF a (Z.drop (k+1))).2
 | [],k,z,_,_,h=>by cases h
 | p::ps,0,z,hn,hl,h=>by
  obtain rfl:p=z:=by simpa using h
  show atN ((planF a ps).1.set _ _) _=_
  rw [atN_set (by rw [planF_len];exact hl p (by simp)),if_pos rfl]
  rfl
 | p::ps,k+1,z,hn,hl,h=>by
  have hz:ps[k]?=some z:=by simpa using h
  rw [List.map_cons,List.nodup_cons] at hn
  have ih:=plan_at (a:=a) hn.2 (fun z hz=>hl z (by simp [hz])) hz
  show atN ((planF a ps).1.set _ _) _=_
  rw [atN_set (by rw [planF_len];exact hl p (by simp)),if_neg,ih]
  ·rfl
  exact fun e=>hn.1 (e▸List.mem_map.2 ⟨z,List.mem_of_getElem? hz,rfl⟩)
theorem plan_forks {a:List Nd} {i:Int} {ks:List (List Int)} (h:planE a i ks=0):forkL a i=forkF a (wayP a i):=fork_yes (planE_ok h).1
theorem planS_two (o:List Nd × List Int) (p:Int × Int) (k:List Int):(planS o p k).2=givesL (planS o p k).1 p.1 p.2:=by simp only [planS]
section
variable {a:List Nd} {i:Int} {ks:List (List Int)} (ha:trIs a) (h:planE a i ks=0)
include ha h
theorem plan_node:isN (2*i) (a.length:Int)∧0≤i:=by
 obtain ⟨q,_⟩:=planE_ok h
 have hl:leavesA a=(a.length+1) / 2:=rfl
 have hw:=trIs_len ha
 exact ⟨isN_of ha (by omega) (by omega),q.1⟩
theorem plan_nodup:((planZ a i ks).map fun z=>z.1.1.toNat).Nodup:=by
 obtain ⟨hN,_⟩:=plan_node ha h
 obtain ⟨_,hl,_⟩:=planE_ok h
 obtain ⟨l1,l2⟩:=wayP_len hN
 have e1:(planZ a i ks).map Prod.fst=forkL a i:=List.map_fst_zip (by omega)
 have e:(planZ a i ks).map (fun z=>z.1.1.toNat)=((forkL a i).map Prod.fst).map Int.toNat:=by
  rw [←e1,List.map_map,List.map_map]
  rfl
 rw [e,plan_forks h]
 have hd:((wayP a i).map Prod.fst).Nodup:=by
  rw [wayP,List.map_fst_zip (by omega)]
  exact way_apart hN
 have hf:((forkF a (wayP a i)).map Prod.fst).Nodup:=hd.sublist (List.filter_sublist.map _)
 have hpos:∀ x∈(forkF a (wayP a i)).map Prod.fst,0≤x:=fun x hx=>by
  obtain ⟨p,hp,rfl⟩:=List.mem_map.1 hx
  exact (fork_nodes ha (by rw [plan_forks h];exact hp:p∈forkL a i)).1.le.1
 exact List.pairwise_map.2 (List.Pairwise.imp_of_mem (fun {x y} hx hy hne e=>hne (by
  have:=hpos x hx
  have:=hpos y hy
  omega)) hf)
/-- Off the way nothing is planned. -/
theorem plan_off:offW i a (planP a i ks):=by
 obtain ⟨hN,_⟩:=plan_node ha h
 refine ⟨planP_len h,fun y hy u=>?_⟩
 obtain ⟨_,hd⟩:=on_way hN hy u
 have h2:=hy.le
 rw [(planP_ok h).1,plan_out,plan0,clr_at _ _ _ (fun d hd=>?_),if_neg]
 ·rw [show ((y.toNat:Nat):Int)=y by omega]
  exact hd
 ·exact (fin2 (p:=fun x w=>∀ d∈dirI x w,0≤d) (by kernel_rfl) hN) d hd
 intro z hz e
 have hm:=List.of_mem_zip (l₁:=forkL a i) (l₂:=ks) (a:=z.1) (b:=z.2) hz
 obtain ⟨h3,_,_,_,h5⟩:=fork_nodes ha hm.1
 have:=h3.le
 exact hd ((show y=z.1.1 by omega)▸(List.of_mem_zip h5).1)
/-- On the way, off the filtered one, all is blank. -/
theorem plan_blank {y:Int} (hy:y∈dirI (2*i) (a.length:Int)) (hf:y∉(forkL a i).map Prod.fst):atN (planP a i ks) y.toNat=Nd.zero:=by
 obtain ⟨hN,h0⟩:=plan_node ha h
 have hp:∀ d∈dirI (2*i) (a.length:Int),0≤d:=fin2 (p:=fun x w=>∀ d∈dirI x w,0≤d) (by kernel_rfl) hN
 have hy0:=hp y hy
 rw [(planP_ok h).1,plan_out,plan0,clr_at _ _ _ hp,if_pos]
 ·rw [show ((y.toNat:Nat):Int)=y by omega]
  exact hy
 intro z hz e
 have hm:=List.of_mem_zip (l₁:=forkL a i) (l₂:=ks) (a:=z.1) (b:=z.2) hz
 have:=(fork_nodes ha hm.1).1.le
 exact hf ((show z.1.1=y by omega)▸List.mem_map.2 ⟨z.1,hm.1,rfl⟩)
theorem plan_at_k {k:Nat} (hk:k<(forkL a i).length):atN (planP a i ks) (((forkL a i).map Prod.fst).getD k 0).toNat=keyN (ks.getD k []) (planF (plan0 a i) ((planZ a i ks).drop (k+1))).2:=by
 obtain ⟨_,hl,_⟩:=planE_ok h
 rw [(planP_ok h).1]
 exact plan_at (plan_nodup ha h) (fun z hz=>by
  have:=(planZ_nodes ha h z hz).1.le
  rw [plan0_len]
  omega) (planZ_at hl hk)
theorem fork_k {k:Nat} (hk:k<(forkL a i).length):∃ j,j<(dirI (2*i) (a.length:Int)).length∧(forkF a ((wayP a i).take j)).length=k∧((forkL a i).map Prod.fst).getD k 0=(dirI (2*i) (a.length:Int)).getD j 0∧((forkL a i).map Prod.snd).getD k 0=(copI (2*i) (a.length:Int)).getD j 0∧¬hiL a ((copI (2*i) (a.length:Int)).getD j 0)=[]:=by
 obtain ⟨hN,_⟩:=plan_node ha h
 have e:=plan_forks h
 rw [e] at hk ⊢
 obtain ⟨l1,l2⟩:=wayP_len hN
 obtain ⟨j,hj,h1,h2,h3⟩:=filter_at hk
 have hj2:j<(dirI (2*i) (a.length:Int)).length:=by omega
 have hw:(wayP a i)[j]=((dirI (2*i) (a.length:Int)).getD j 0,(copI (2*i) (a.length:Int)).getD j 0):=by
  have:=List.getElem?_eq_getElem hj
  have h4:(wayP a i)[j]?=some ((dirI (2*i) (a.length:Int)).getD j 0,(copI (2*i) (a.length:Int)).getD j 0):=by
   rw [wayP,List.getElem?_zip_eq_some,List.getD_eq_getElem?_getD,List.getD_eq_getElem?_getD,List.getElem?_eq_getElem hj2,List.getElem?_eq_getElem (by omega)]
   exact ⟨rfl,rfl⟩
  exact Option.some.inj (this.symm.trans h4)
 rw [hw] at h2 h3
 refine ⟨j,hj2,h1,?_,?_,of_decide_eq_true h3⟩
 ·rw [List.getD_eq_getElem?_getD,List.getElem?_map,show (forkF a (wayP a i))[k]?=_ from h2]
  rfl
 rw [List.getD_eq_getElem?_getD,List.getElem?_map,show (forkF a (wayP a i))[k]?=_ from h2]
 rfl
theorem plan_gives {s:List Nd} (hl:s.length=a.length) (f:∀ y,isN y (a.length:Int)→¬y=2*i→atN s y.toNat=atN (planP a i ks) y.toNat) {k:Nat} (hk:k<(forkL a i).length) :
  (planF (plan0 a i) ((planZ a i ks).drop k)).2=givesL s (((forkL a i).map Prod.fst).getD k 0) (((forkL a i).map Prod.snd).getD k 0):=by
 obtain ⟨hN,h0⟩:=plan_node ha h
 obtain ⟨_,hkl,_⟩:=planE_ok h
 obtain ⟨j,hj,_,e1,e2,_⟩:=fork_k ha h hk
 have hnd:=plan_nodup ha h
 obtain ⟨_,_,_,hx,hxn,_⟩:=kid_at hN hj
 have hz:=planZ_at hkl hk
 -- the tree when that node is laid
 have ht:∀ y,isN y (a.length:Int)→(∀ z∈(planZ a i ks).take k,¬z.1.1.toNat=y.toNat)→atN (planF (plan0 a i) (planZ a i ks)).1 y.toNat=atN (planF (plan0 a i) ((planZ a i ks).drop k)).1 y.toNat:=fun y hy hq=>plan_tail hq
 have hs:=plan_step (t:=plan0 a i) hkl hk
 have e3:(planF (plan0 a i) ((planZ a i ks).drop k)).2=givesL (planF (plan0 a i) ((planZ a i ks).drop k)).1 (((forkL a i).map Prod.fst).getD k 0) (((forkL a i).map Prod.snd).getD k 0):=by rw [hs,planS_two]
 rw [e3]
 have hlen:(planF (plan0 a i) ((planZ a i ks).drop k)).1.length=a.length:=by rw [planF_len,plan0_len]
 refine (gives_below (by rw [hl,hlen]) ?_ fun y u=>?_).symm
 ·rw [e1,f _ hx (fun q=>hxn q),(planP_ok h).1]
  refine ht _ hx fun z hz2 e=>?_
  obtain ⟨m,hm,ez⟩:=List.mem_iff_getElem.1 hz2
  rw [List.length_take] at hm
  have hmz:(planZ a i ks)[m]?=some z:=by
   rw [List.getElem_take] at ez
   rw [List.getElem?_eq_getElem (by omega),ez]
  have hA:((planZ a i ks).map fun z=>z.1.1.toNat)[m]?=some z.1.1.toNat:=by rw [List.getElem?_map,hmz];rfl
  have hB:((planZ a i ks).map fun z=>z.1.1.toNat)[k]?=some z.1.1.toNat:=by
   rw [List.getElem?_map,hz]
   simp only [Option.map_some,Option.some.injEq]
   rw [e1]
   exact e.symm
  have h1:=(List.getElem?_eq_some_iff.1 hA).1
  have:=(List.getElem?_inj h1 hnd).1 (hA.trans hB.symm)
  omega
 rw [hl] at u
 have hun:=beside_off hN hj e2 u
 obtain ⟨hy1,hy2⟩:=on_way hN u.1 hun
 have hule:=u.1.le
 rw [f y u.1 hy1,(planP_ok h).1]
 refine ht y u.1 fun z hz2 e=>hy2 ?_
 have hm:=List.of_mem_zip (l₁:=forkL a i) (l₂:=ks) (a:=z.1) (b:=z.2) (List.mem_of_mem_take hz2)
 obtain ⟨h3,_,_,_,h5⟩:=fork_nodes ha hm.1
 have:=h3.le
 exact (show y=z.1.1 by omega)▸(List.of_mem_zip h5).1
/-- The planned tree, with that leaf. -/
theorem plan_link {s:List Nd} {n:Nd} (e:s=(planP a i ks).set (2*i).toNat n) (hn:n.kind=1) (hp:n.inner=Pn.zero) (hsy:n.leaf.par=planH a i ks) {k:Nat} (hk:k<(forkL a i).length) :
  validL s (((forkL a i).map Prod.fst).getD k 0)∧atN s (((forkL a i).map Prod.fst).getD k 0).toNat=atN (planP a i ks) (((forkL a i).map Prod.fst).getD k 0).toNat:=by
 obtain ⟨hN,h0⟩:=plan_node ha h
 have hNle:=hN.le
 obtain ⟨_,hkl,_⟩:=planE_ok h
 have hPl:=planP_len h
 have hl:s.length=a.length:=by rw [e,List.length_set,hPl]
 have hat:∀ y,isN y (a.length:Int)→¬y=2*i→atN s y.toNat=atN (planP a i ks) y.toNat:=fun y hy q=>by
  have:=hy.le
  rw [e,atN_set (by omega),if_neg (by omega)]
 have hx2:atN s (2*i).toNat=n:=by rw [e,atN_set (by omega),if_pos rfl]
 have hoff:=plan_off ha h
 have hoffs:offW i a s:=⟨hl,fun y hy u=>by
  rw [hat y hy (on_way hN hy u).1]
  exact hoff.2 y hy u⟩
 -- a node of the way
 have hfk:∀ k,k<(forkL a i).length→atN s (((forkL a i).map Prod.fst).getD k 0).toNat=keyN (ks.getD k []) (planF (plan0 a i) ((planZ a i ks).drop (k+1))).2∧isN (((forkL a i).map Prod.fst).getD k 0) (a.length:Int):=fun k hk=>by
  obtain ⟨j,hj,_,e1,_,_⟩:=fork_k ha h hk
  obtain ⟨_,_,_,hx,hxn,_⟩:=kid_at hN hj
  refine ⟨?_,by rw [e1];exact hx⟩
  rw [hat _ (by rw [e1];exact hx) (by rw [e1];exact hxn),plan_at_k ha h hk]
 have hfy:∀ j,j<(dirI (2*i) (a.length:Int)).length→¬hiL a ((copI (2*i) (a.length:Int)).getD j 0)=[]→(forkF a ((wayP a i).take j)).length<(forkL a i).length∧((forkL a i).map Prod.fst).getD (forkF a ((wayP a i).take j)).length 0=(dirI (2*i) (a.length:Int)).getD j 0:=fun j hj q=>by
  have:=fork_in_fst hN hj q
  rw [plan_forks h]
  exact ⟨this.1,this.2.1⟩
 have hbl:∀ j,j<(dirI (2*i) (a.length:Int)).length→hiL a ((copI (2*i) (a.length:Int)).getD j 0)=[]→(atN s ((dirI (2*i) (a.length:Int)).getD j 0).toNat).kind=0:=fun j hj q=>by
  obtain ⟨_,_,_,hx,hxn,_⟩:=kid_at hN hj
  have:=fork_out hN hj q
  rw [←plan_forks h] at this
  rw [hat _ hx hxn,plan_blank ha h (getD_in hj) this]
 -- who is told below
 have htop:∀ j,j≤(dirI (2*i) (a.length:Int)).length→topP s (2*i) (a.length:Int) j=if (forkF a ((wayP a i).take j)).length=0 then 2*i else ((forkL a i).map Prod.fst).getD ((forkF a ((wayP a i).take j)).length-1) 0:=fun j hj=>by
  induction j with
  | zero=>rfl
  | succ j ih =>
   have hj2:j<(dirI (2*i) (a.length:Int)).length:=by omega
   rw [topP]
   by_cases q:hiL a ((copI (2*i) (a.length:Int)).getD j 0)=[]
   ·rw [if_pos (hbl j hj2 q),ih (by omega),wayP_at hN hj2,forkF_no (fun z=>z q)]
   obtain ⟨g1,g2⟩:=hfy j hj2 q
   have g3:=(hfk _ g1).1
   rw [g2] at g3
   rw [if_neg (by rw [g3];exact fun q=>absurd (show (2:Int)=0 from q) (by decide)),wayP_at hN hj2,forkF_yes q,List.length_append,if_neg (by simp)]
   simp only [List.length_cons,List.length_nil,Nat.add_sub_cancel]
   exact g2.symm
 have hway:=hi_way (s:=s) (x:=2*i) (by rw [hl];exact hN) (by rw [hx2,hn];decide) (fun j hj q=>by
  rw [hl] at hj q ⊢
  have hz:hiL a ((copI (2*i) (a.length:Int)).getD j 0)=[]:=Classical.byContradiction fun z=>by
   obtain ⟨g1,g2⟩:=hfy j hj z
   have g3:=(hfk _ g1).1
   rw [g2] at g3
   rw [g3] at q
   exact absurd (show (2:Int)=0 from q) (by decide)
  rw [off_hi hN hoffs hj,hz])
 rw [hl] at hway
 obtain ⟨j,hj,hm,e1,e2,_⟩:=fork_k ha h hk
 obtain ⟨hc,hsib,_,hx,hxn,_⟩:=kid_at hN hj
 have hkk:=(hfk k hk).1
 have hgv:=plan_gives ha h hl hat hk
 have hd0:=hway j (by omega)
 rw [htop j (by omega),hm] at hd0
 refine ⟨?_,hat _ (hfk k hk).2 (by rw [e1];exact hxn)⟩
 -- who made it
 have hmk:madeL s (((forkL a i).map Prod.fst).getD k 0) (posI (2*i) (a.length:Int) j):=by
  generalize hdd:(if k=0 then 2*i else ((forkL a i).map Prod.fst).getD (k-1) 0)=d at hd0
  have hun:(atN s d.toNat).inner.unm=[]∧saysN (atN s d.toNat)=(planF (plan0 a i) ((planZ a i ks).drop k)).2:=by
   by_cases q:k=0
   ·rw [if_pos q] at hdd
    rw [←hdd,hx2,hp,q]
    exact ⟨rfl,by rw [saysN,if_pos hn,hsy,(planP_ok h).2];rfl⟩
   rw [if_neg q] at hdd
   rw [←hdd,(hfk (k-1) (by omega)).1,show k-1+1=k by omega]
   exact ⟨rfl,rfl⟩
  have hr:resL s (posI (2*i) (a.length:Int) j)=[d]:=by
   unfold resL
   rw [hd0]
   simp [resOf,nodeR,hun.1]
  refine ⟨d,by rw [hr];simp,by rw [hl];exact (hfk k hk).2,by rw [hkk],?_,by rw [hr];simp,?_,?_⟩
  ·rw [e1,hl]
   exact hc.imp (fun q=>q.1) fun q=>q.1
  ·rw [hr,cutK_self]
   unfold unmB
   rw [hkk]
   rfl
  rw [hun.2,hgv,hl,hsib,e2]
 refine ⟨by rw [hl];exact (hfk k hk).2,fun _=>?_⟩
 rw [e1,hl]
 rw [e1] at hmk
 rcases hc with ⟨z,_⟩ | ⟨z,_⟩
 ·exact .inl (z▸hmk)
 exact .inr (z▸hmk)
/-- All are valid, if all were. -/
theorem plan_all {s:List Nd} {n:Nd} (e:s=(planP a i ks).set (2*i).toNat n) (ho:ndCheck n=0) (hn:n.kind=1) (hp:n.inner=Pn.zero) (hsy:n.leaf.par=planH a i ks) (hv:verL a):verL s:=by
 obtain ⟨hN,h0⟩:=plan_node ha h
 have hNle:=hN.le
 have hPl:=planP_len h
 have hl:s.length=a.length:=by rw [e,List.length_set,hPl]
 have hs:trIs s:=by
  rw [e]
  exact trIs_set (planP_is ha i ks) ⟨ho,.inr (by omega),.inl (by omega)⟩
 have hat:∀ y,isN y (a.length:Int)→¬y=2*i→atN s y.toNat=atN (planP a i ks) y.toNat:=fun y hy q=>by
  have:=hy.le
  rw [e,atN_set (by omega),if_neg (by omega)]
 have hoff:=plan_off ha h
 intro x hx
 have hxn:isN (x:Int) (a.length:Int):=isN_of ha (by omega) (by omega)
 have hxs:isN (x:Int) (s.length:Int):=by rw [hl];exact hxn
 by_cases u:undI (2*i) (x:Int) a.length
 ·rcases (und_dir hN hxn).2 u with q | q
  ·refine ⟨hxs,fun k=>?_⟩
   rw [←q,e,atN_set (by omega),if_pos rfl,hn] at k
   exact absurd k (by decide)
  by_cases f:(x:Int)∈(forkL a i).map Prod.fst
  ·obtain ⟨k,hk,ek⟩:=mem_getD f
   rw [List.length_map] at hk
   have:=(plan_link ha h e hn hp hsy hk).1
   rwa [ek] at this
  have hb:=plan_blank ha h q f
  refine ⟨hxs,fun k=>?_⟩
  rw [hat _ hxn (fun z=>way_not hN (z▸q)),hb] at k
  exact absurd k (by decide)
 refine valid_congr' ha hs hl.symm (fun y hy=>?_) (hv x (by omega))
 have hu:¬undI (2*i) y a.length:=fun q=>u (und_up q hy)
 rw [hat y hy.1 (on_way hN hy.1 hu).1]
 exact (hoff.2 y hy.1 hu).symm
/-- Off the way all is as it was; on it, off the filtered one, blank. -/
theorem plan_rest {s:List Nd} {n:Nd} (e:s=(planP a i ks).set (2*i).toNat n) {x:Int} (hx:isN x (a.length:Int)) :
  (¬undI (2*i) x a.length→atN s x.toNat=atN a x.toNat)∧(undI (2*i) x a.length→x % 2=1→x∉(forkL a i).map Prod.fst→(atN s x.toNat).kind=0):=by
 obtain ⟨hN,h0⟩:=plan_node ha h
 have hNle:=hN.le
 have hPl:=planP_len h
 have hxle:=hx.le
 have hat:¬x=2*i→atN s x.toNat=atN (planP a i ks) x.toNat:=fun q=>by
  rw [e,atN_set (by omega),if_neg (by omega)]
 refine ⟨fun u=>?_,fun u ho hf=>?_⟩
 ·rw [hat (on_way hN hx u).1]
  exact (plan_off ha h).2 x hx u
 rcases (und_dir hN hx).2 u with q | q
 ·omega
 rw [hat (by omega),plan_blank ha h q hf]
end
end Go.Proofs.YtfdmhdnlmndhdaaGreatDoor
