/-
  For any script from the empty state on: kept trees are numbered from one on, never with a number that was given before; one that is forgotten is there no more; eight at most are kept. The arguments read afterwards as before.
  No condition but the row's own: the two tables of package math/bits and the numbers of package block are read as the program's text lays them; the card ties them to that text, of the pruned copy.
-/
import Derived.Test.YtjjdcnkbibkmkaaGreatDoorCards
import Derived.Test.YtjjdcnkbibkmkaaGreatDoorTie
import Derived.Test.YtjjdcnkbibkmkaaGreatDoorMdLiftT
import Derived.Test.YtjjdcnkbibkmkaaGreatDoorMdLift
import Derived.Test.YtjjdcnkbibkmkaaGreatDoorMdKept
import Derived.SevenTiedAt
import Derived.JoinedOf
namespace Go.Proofs.YtjjdcnkbibkmkaaGreatDoor
open Go.Proofs.Tryz
open Go.ChangeShapes Go.WideShapes Go.ChangeAt Go.RowKit
set_option linter.unusedVariables false
namespace modelKept
theorem door_met (os:Os) (args:Array Value):laidMetH prog laidG ((World.doorLaid prog 4000 os).forCall (fun _ _=>0) ⟨#[],args,[]⟩).memory :=
 laidMetH_of_parts3 (fuel:=8) (laidMet_of_run' 8 (by kernel_rfl) (by kernel_rfl)) (by kernel_rfl) (by kernel_rfl)
set_option maxRecDepth 100000 in
theorem lifted (os:Os) (started:os.Started) (H:Type) (enc:TypeId × Value->H) :
  ReturnsInHanded {} Tryz.checked os 7 .any (fun w args=>(Rows.modelKeptSpec.pre enc prog Tryz.f7 [] false w args/\laidMetH prog laidG w)/\sizedMet enc prog Tryz.f7 (OpenSpec.ofChange Rows.modelKeptSpec) false w args)
   (Rows.modelKeptSpec.post enc prog Tryz.f7 false true false false):=by
 refine returnsInHanded_of_change_and (C:=Tryz.checked) (X:=fun w _=>laidMetH prog laidG w) (fun _ _ _ hh h=>h.of_heap hh) own started (by kernel_rfl) func7
  (ChangeSpec.witness_shaped (enc:=enc) (C:=Tryz.checked) (os:=os) (X:=fun w _=>laidMetH prog laidG w) false (World.doorLaid prog 4000 os) #[.slice none 0 0] 8 rfl (World.shaped_of_RefB (by kernel_rfl) (by kernel_rfl)) (by kernel_rfl) (by kernel_rfl) (by kernel_rfl) (door_met os _)) ?_
 intro W base args ds gs before hval0 hW _ _ hL _;have hval:∀ (j:Nat) t v,Tryz.f7.params[j]?=some t->args[j]?=some v->Value.okWide prog W .any base t v:=hval0;have hW':=hW;obtain ⟨p,q,hA0,hV,rfl,hfz,hnd⟩:=hW;have hA:DataW.TrodAll enc prog W 0 (fun _=>true) true Tryz.f7.params.toList args.toList ds p:=hA0;rw [Tryz.params7] at hA hval;obtain ⟨inst,eq0⟩:∃ _:Lo,lowB=W.heap.size:=⟨⟨⟨W.heap.size⟩⟩,rfl⟩;obtain ⟨v0,vs0,d0,ds0,p0,q0,hargs,rfl,rfl,h0,r0⟩:=trodAll_cons hA;obtain ⟨rfl,rfl,rfl⟩:=trodAll_nil r0;obtain rfl:args=#[v0]:=by cases args;simp_all
 obtain ⟨rfl,rfl⟩:=trodVars_none hV;have k0:=h0;have lt0:∀ x∈p0,x.block<W.heap.size:=by obtain ⟨m,hm⟩:=k0;exact DataW.trod_lt m _ _ _ hm
 obtain ⟨s0,x0,rfl,o0⟩:=open_rowOoS (hval 0 44 v0 rfl rfl) h0;have rg:=of_laid hL;clear hA0 hval0;refine (modelKept_any o0 (Nat.le_of_eq eq0) rg).mono fun e W' hR=>?_;obtain ⟨v,he,hv,bel⟩:=hR;subst hv;subst he;exact ⟨_,rfl,_,_,_,[],_,[],hW',trodAll_mk1 (shut_bool (show prog.underlying 4=some .bool by kernel_rfl) _),(trodAll_cons_mk (Below.trod laidOut (by kernel_rfl) (of_decide_eq_true (by kernel_rfl)) k0 bel lt0) trodAll_mk0),rfl,bel.frame _,fun h=>by cases h⟩
theorem named:Tryz.pinned.checked.prog.funcNamed Rows.modelKeptRow.func=some 7:=by kernel_rfl
theorem joined1:(Rows.modelKeptRow.inPlace == Tryz.pinned.checked.prog.inPlace 7)=true:=by kernel_rfl
theorem joined2:(Rows.modelKeptRow.unfollowed == Tryz.pinned.checked.prog.unfollowed 7)=true:=by kernel_rfl
theorem joined3:(Rows.modelKeptRow.recurses == Tryz.pinned.checked.prog.recurses 7)=true:=by kernel_rfl
theorem joined4:(Rows.modelKeptRow.named == Tryz.pinned.checked.prog.varsNamed 7)=true:=by kernel_rfl
theorem joined:joinedFacts Tryz.pinned.checked.prog 7 Tryz.f7 Rows.modelKeptSpec Rows.modelKeptRow=true:=by
 unfold joinedFacts;rw [joined1,joined2,joined3,joined4];kernel_rfl
theorem over:Rows.modelKeptRow.holds Tryz.pinned (OpenSpec.ofChange Rows.modelKeptSpec) :=
 OpenClaim.holds_of_wide 7 Tryz.f7 rfl rfl rfl rfl rfl rfl rfl ⟨rfl,rfl,rfl,rfl,rfl⟩ rfl rfl rfl rfl rfl named func7 joined
  (of_decide_eq_true (by kernel_rfl)) (by unfold Func.isWrapper;first | (rw [if_pos (by decide +kernel)];kernel_rfl) | (rw [if_neg (by decide +kernel)];exact ⟨rfl,rfl⟩))
  (fun os started H enc _=>lifted os started H enc)
end modelKept
theorem modelKept_said:Rows.ModelKeptSaid:=modelKept.over
theorem modelKept_holds:Rows.ModelKeptCardSaid :=
 Claim7.holds_tied_plain_at .later [] [.data, .data, .data] true (true, "9c7bff1ca64ea03e7795a20d62d065c05cb8e964cd1f0fef88f73ea1724732aa") false
  modelKept_said (fun _ h=>by cases h) (by kernel_rfl) (fun _ h=>by cases h) modelKept_row_tie rfl ⟨rfl,rfl⟩ (by kernel_rfl) rfl
  (fun f fn hf hfn=>by
   obtain rfl:f=7:=Option.some.inj (modelKept.named.symm.trans hf) |>.symm
   obtain rfl:fn=Tryz.f7:=(Option.some.inj (func7.symm.trans hfn)).symm;exact ⟨by kernel_rfl,fun j t ht=>by
    rw [Tryz.params7] at ht;have hm:t∈[44]:=by simpa using Array.mem_of_getElem? ht
    have hall:([44].all fun u=>!prog.wantsStandIn u)=true:=by kernel_rfl
    exact (show prog.wantsStandIn t=false by simpa using List.all_eq_true.1 hall t hm)⟩)
  (by kernel_rfl)
end Go.Proofs.YtjjdcnkbibkmkaaGreatDoor
