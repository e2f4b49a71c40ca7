/-
  What is put of trees that grow, who is named in them.
-/
import Derived.Test.YtognnnjdoemgfaaGreatDoorOcMath
import Derived.Test.YtognnnjdoemgfaaGreatDoorKitT
import Derived.Test.YtognnnjdoemgfaaGreatDoorKitH
namespace Go.Proofs.YtognnnjdoemgfaaGreatDoor
open Go.ChangeShapes Go.WideShapes Go.ChangeAt Go.RowKit
set_option linter.unusedVariables false

theorem ahead_app {x:Int}:∀ {l r:List Int},x∈l→ahead x (l++r)=ahead x l
 | d::l,r,h=>by
  rw [List.cons_append,ahead,ahead]
  split
  ·rfl
  rcases List.mem_cons.1 h with e | e
  ·exact absurd e.symm ‹¬d=x›
  rw [ahead_app e]
theorem way_more {x w:Int} (h:isN x w):w≤63→(dirI x (2*w+1)).take (dirI x w).length=dirI x w:=fin2 (p:=fun x w=>w≤63→(dirI x (2*w+1)).take (dirI x w).length=dirI x w) (by kernel_rfl) h
theorem und_more:([1,3,7,15,31,63].all fun w=>(List.range w).all fun x=>(List.range 128).all fun y=>Nat.ble (y+1) w || !undN y x)=true:=by kernel_rfl
theorem und_out {y x w:Nat} (hw:w∈[1,3,7,15,31,63]) (hx:x<w) (hy:y<128) (hn:w≤y):undN y x=false:=by
 have h:=List.all_eq_true.1 (List.all_eq_true.1 (List.all_eq_true.1 und_more w hw) x (List.mem_range.2 hx)) y (List.mem_range.2 hy)
 simp only [Bool.or_eq_true,Bool.not_eq_true'] at h
 rcases h with h | h
 ·have:=Nat.le_of_ble_eq_true h
  omega
 exact h
theorem nm_grow {t g:List Nd} (hg:∀ i,atN g i=atN t i) (hl:g.length=2*t.length+1) (hw:isW (t.length:Int)) (h63:t.length≤63) {i x:Int} (hi:0≤i∧i<64) (hx:0≤x∧x<t.length) (ho:x % 2=1):nmP g i x↔nmP t i x:=by
 have hlI:(g.length:Int)=2*(t.length:Int)+1:=by omega
 have hwg:isW (g.length:Int):=by
  unfold isW at hw ⊢
  omega
 have hu:undI (2*i) x (g.length:Int)↔undI (2*i) x (t.length:Int):=by
  by_cases c:2*i<t.length
  ·exact ⟨fun q=>⟨⟨hw,by omega,c⟩,⟨hw,hx.1,hx.2⟩,q.2.2⟩,fun q=>⟨⟨hwg,by omega,by omega⟩,⟨hwg,hx.1,by omega⟩,q.2.2⟩⟩
  refine ⟨fun q=>?_,fun q=>absurd q.1.2.2 c⟩
  have hm:t.length∈[1,3,7,15,31,63]:=by
   unfold isW at hw
   simp only [List.mem_cons,List.not_mem_nil,or_false]
   omega
  have h2:=und_out (y:=(2*i).toNat) (x:=x.toNat) hm (by omega) (by omega) (by omega)
  rw [q.2.2] at h2
  cases h2
 unfold nmP
 rw [hu,hg]
 refine and_congr_right fun u=>and_congr_right fun _=>?_
 have hm:=wayO_to u ho
 have hp:=way_more u.1 (by omega)
 rw [←hlI] at hp
 obtain ⟨r,hr⟩:∃ r,dirI (2*i) (g.length:Int)=dirI (2*i) (t.length:Int)++r:=⟨(dirI (2*i) (g.length:Int)).drop (dirI (2*i) (t.length:Int)).length,by
  conv=>lhs;rw [←List.take_append_drop (dirI (2*i) (t.length:Int)).length (dirI (2*i) (g.length:Int)),hp]⟩
 rw [hr,ahead_app hm]
 have key:∀ j,j<ahead x (dirI (2*i) (t.length:Int))→(badN g i ((dirI (2*i) (t.length:Int)++r).getD j 0)↔badN t i ((dirI (2*i) (t.length:Int)).getD j 0)):=fun j hj=>by
  have hj2:=ahead_le x (dirI (2*i) (t.length:Int))
  rw [List.getD_eq_getElem?_getD,List.getElem?_append_left (by omega),←List.getD_eq_getElem?_getD]
  unfold badN
  rw [hg]
 exact ⟨fun q j hj=>fun z=>q j hj ((key j hj).2 z),fun q j hj=>fun z=>q j hj ((key j hj).1 z)⟩
theorem named_grow {t:List Nd} (h:trIs t) (e:growE t=0):namedL (trAs (growL t))↔namedL (trAs t):=by
 have h1:=growL_ok e
 have h2:=growL_len e
 have h3:=grow_small e
 rw [trAs_ok h] at h1 h2 h3
 have hg:∀ i,atN (growL t) i=atN t i:=fun i=>by rw [h1,atN_app_z]
 rw [trAs_ok (trIs_growL t),trAs_ok h]
 have key:∀ x,x<t.length→∀ k,k<(atN t x).inner.unm.length→(nmP (growL t) ((atN t x).inner.unm.getD k 0) (x:Int)↔nmP t ((atN t x).inner.unm.getD k 0) (x:Int)):=fun x hx k hk =>
  nm_grow hg h2 (h.1.resolve_left (by omega)) h3 (unmT_at h hk) ⟨by omega,by omega⟩ (by have:=(unmT_ok h x).2.2 (by omega);omega)
 refine ⟨fun q x hx k hk=>?_,fun q x hx k hk=>?_⟩
 ·have:=q x (by omega) k (by rw [hg];exact hk)
  rw [hg] at this
  exact (key x hx k hk).1 this
 rw [hg] at hk ⊢
 by_cases c:x<t.length
 ·exact (key x c k hk).2 (q x c k hk)
 rw [atN_none (by omega)] at hk
 exact absurd hk (Nat.not_lt_zero _)
theorem named_none {t:List Nd} (h:trIs t) (no:∀ x,x<t.length→¬(atN t x).kind=2):namedL (trAs t):=by
 rw [trAs_ok h]
 intro x hx k hk
 rw [unm_kind (trIs_ok h x).1 (no x hx)] at hk
 exact absurd hk (Nat.not_lt_zero _)
/-- All that are named. -/
def namL (t:List Nd):List Int:=t.flatMap fun n=>n.inner.unm
theorem nam_step {t:List Nd} {k:Nat} (h:k<t.length):namL (t.take (k+1))=namL (t.take k)++(atN t k).inner.unm:=by
 rw [namL,List.take_succ_eq_append_getElem h,List.flatMap_append,atN_some (List.getElem?_eq_getElem h)]
 simp [namL]
theorem nam_le {t:List Nd} (h:trIs t):∀ k,k≤t.length→(namL (t.take k)).length≤64*k
 | 0,_=>Nat.le_of_eq rfl
 | k+1,hk=>by
  have:=nam_le h k (by omega)
  have:=(unmT_ok h k).2.1
  rw [nam_step hk,List.length_append]
  omega
theorem nam_mem {t:List Nd} {x:Nat} {i:Int} (hx:x<t.length) (hi:i∈(atN t x).inner.unm):i∈namL t:=by
 rw [atN_some (List.getElem?_eq_getElem hx)] at hi
 exact List.mem_flatMap.2 ⟨_,List.getElem_mem hx,hi⟩
theorem cut_all {u l:List Int} (h:∀ i∈u,i∈l):cutK u l=[]:=by
 rw [cutK,List.filter_eq_nil_iff]
 intro i hi
 simpa using h i hi
theorem named_drop {t:List Nd} (h:trIs t):namedL (trAs (dropL (namL t) (trAs t))):=by
 rw [trAs_ok h,trAs_ok (drop_is h _)]
 intro x hx k hk
 rw [dropL_len] at hx
 have e:(atN (dropL (namL t) t) x).inner.unm=[]:=by
  rw [drop_at hx]
  refine cut_all fun i hi=>?_
  unfold zapN at hi
  split at hi
  ·cases hi
  exact nam_mem hx hi
 rw [e] at hk
 exact absurd hk (Nat.not_lt_zero _)
end Go.Proofs.YtognnnjdoemgfaaGreatDoor
