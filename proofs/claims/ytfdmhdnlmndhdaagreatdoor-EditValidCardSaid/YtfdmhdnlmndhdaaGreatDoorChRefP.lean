/-
  What is planned: the document.
-/
import Derived.Test.YtfdmhdnlmndhdaaGreatDoorChRef
namespace Go.Proofs.YtfdmhdnlmndhdaaGreatDoor
open Go.ChangeShapes Go.WideShapes Go.ChangeAt Go.RowKit
set_option linter.unusedVariables false

set_option maxRecDepth 20000
theorem OwnNa.hs {w w':World} {g T:Nat} {s r:SlV} {Ls:List Nd} {xs:List Int} (h:OwnNa w g T s Ls) (hs:Hs w r xs) (k:Alt w w' g):Hs w' r xs:=by
 obtain ⟨_,_,ps,cur,_,_,_,_,h5,_⟩:=h
 refine hs.kept k fun q c e z=>?_
 subst z
 unfold RowAt at h5
 rw [h5] at e
 injection e with e
 injection e with _ e
 exact nd_ne_u8 e
theorem clr_take {ds:List Int} {t:Nat} {a:List Nd} (h:t<ds.length):(clr (ds.take t) a).set (ds.getD t 0).toNat Nd.zero=clr (ds.take (t+1)) a:=by
 rw [take_succ_getD ds t h,clr_snoc]
theorem plan_tree {a:List Nd} (ha:trIs a) {i:Int} {ks:List (List Int)} (h:planE a i ks=0) (k:Nat):trIs (planF (plan0 a i) ((planZ a i ks).drop k)).1:=planF_is (plan0_is ha i) fun z hz=>by
 rw [plan0_len]
 exact planZ_nodes ha h z (List.mem_of_mem_drop hz)
theorem fork_at {a:List Nd} (ha:trIs a) {i:Int} {k:Nat} (hk:k<(forkL a i).length):isN (((forkL a i).map Prod.fst).getD k 0) (a.length:Int)∧sibI (sibI (((forkL a i).map Prod.snd).getD k 0) (a.length:Int)) (a.length:Int)=((forkL a i).map Prod.snd).getD k 0:=by
 have hm:(forkL a i)[k]∈forkL a i:=List.getElem_mem hk
 obtain ⟨h1,h2,h3,h4,h5⟩:=fork_nodes ha hm
 rw [List.getD_eq_getElem?_getD,List.getD_eq_getElem?_getD,List.getElem?_map,List.getElem?_map,List.getElem?_eq_getElem hk]
 exact ⟨h1,sib_way h4 (List.of_mem_zip h5).2⟩
theorem Tb.set {w w':World} {b:Nat} {t:TypeId} {cs:Array Value} (st:Set1 w w' b t cs) (h:Tb w) (h1:b≠1):Tb w':=by
 obtain ⟨tg,r⟩:=h
 exact ⟨tg,st.keep r (Ne.symm h1)⟩
theorem dirI_in {x w:Int} (h:isN x w):∀ d∈dirI x w,0≤d∧d<w:=fin2 (p:=fun x w=>∀ d∈dirI x w,0≤d∧d<w) (by kernel_rfl) h
theorem getD_inO {l:List (List Int)} {k:Nat} (h:k<l.length):l.getD k []∈l:=by
 rw [List.getD_eq_getElem?_getD,List.getElem?_eq_getElem h]
 exact List.getElem_mem h
end Go.Proofs.YtfdmhdnlmndhdaaGreatDoor
