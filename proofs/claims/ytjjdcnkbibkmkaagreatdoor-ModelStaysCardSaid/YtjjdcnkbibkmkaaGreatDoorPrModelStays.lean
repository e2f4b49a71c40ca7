/-
  For any state and operation: what comes of Do is a state; an error comes with nothing, and leaves the state; a question leaves it too. The arguments read afterwards as before.
  No condition but the row's own: the two tables of package math/bits and the numbers of package block are read as the program's text lays them; the card ties them to that text, of the pruned copy.
-/
import Derived.Test.YtjjdcnkbibkmkaaGreatDoorCards
import Derived.Test.YtjjdcnkbibkmkaaGreatDoorTie
import Derived.Test.YtjjdcnkbibkmkaaGreatDoorMdLiftT
import Derived.Test.YtjjdcnkbibkmkaaGreatDoorMdLift
import Derived.Test.YtjjdcnkbibkmkaaGreatDoorMdStays
import Derived.SevenTiedAt
import Derived.JoinedOf
namespace Go.Proofs.YtjjdcnkbibkmkaaGreatDoor
open Go.Proofs.Tryz
open Go.ChangeShapes Go.WideShapes Go.ChangeAt Go.RowKit
set_option linter.unusedVariables false
namespace modelStays
theorem door_met (os:Os) (args:Array Value):laidMetH prog laidG ((World.doorLaid prog 4000 os).forCall (fun _ _=>0) ⟨#[],args,[]⟩).memory :=
 laidMetH_of_parts3 (fuel:=8) (laidMet_of_run' 8 (by kernel_rfl) (by kernel_rfl)) (by kernel_rfl) (by kernel_rfl)
set_option maxRecDepth 100000 in
theorem lifted (os:Os) (started:os.Started) (H:Type) (enc:TypeId × Value->H) :
  ReturnsInHanded {} Tryz.checked os 5 .any (fun w args=>(Rows.modelStaysSpec.pre enc prog Tryz.f5 [] false w args/\laidMetH prog laidG w)/\sizedMet enc prog Tryz.f5 (OpenSpec.ofChange Rows.modelStaysSpec) false w args)
   (Rows.modelStaysSpec.post enc prog Tryz.f5 false true false false):=by
 refine returnsInHanded_of_change_and (C:=Tryz.checked) (X:=fun w _=>laidMetH prog laidG w) (fun _ _ _ hh h=>h.of_heap hh) own started (by kernel_rfl) func5
  (ChangeSpec.witness_shaped (enc:=enc) (C:=Tryz.checked) (os:=os) (X:=fun w _=>laidMetH prog laidG w) false (World.doorLaid prog 4000 os) #[.agg #[.slice none 0 0,.slice none 0 0,.int .i64 0],.agg #[.int .i64 0,.int .i64 0,.slice none 0 0,.slice none 0 0,.int .i64 0,.slice none 0 0,.slice none 0 0,.slice none 0 0,.int .i64 0]] 8 rfl (World.shaped_of_RefB (by kernel_rfl) (by kernel_rfl)) (by kernel_rfl) (by kernel_rfl) (by kernel_rfl) (door_met os _)) ?_
 intro W base args ds gs before hval0 hW _ _ hL _;have hval:∀ (j:Nat) t v,Tryz.f5.params[j]?=some t->args[j]?=some v->Value.okWide prog W .any base t v:=hval0;have hW':=hW;obtain ⟨p,q,hA0,hV,rfl,hfz,hnd⟩:=hW;have hA:DataW.TrodAll enc prog W 0 (fun _=>true) true Tryz.f5.params.toList args.toList ds p:=hA0;rw [Tryz.params5] at hA hval;obtain ⟨inst,eq0⟩:∃ _:Lo,lowB=W.heap.size:=⟨⟨⟨W.heap.size⟩⟩,rfl⟩;obtain ⟨v0,vs0,d0,ds0,p0,q0,hargs,rfl,rfl,h0,r0⟩:=trodAll_cons hA;obtain ⟨v1,vs1,d1,ds1,p1,q1,rfl,rfl,rfl,h1,r1⟩:=trodAll_cons r0;obtain ⟨rfl,rfl,rfl⟩:=trodAll_nil r1;obtain rfl:args=#[v0,v1]:=by cases args;simp_all
 obtain ⟨rfl,rfl⟩:=trodVars_none hV;have k0:=h0;have lt0:∀ x∈p0,x.block<W.heap.size:=by obtain ⟨m,hm⟩:=k0;exact DataW.trod_lt m _ _ _ hm
 obtain ⟨s0,x0,rfl,o0⟩:=open_SaS (Nat.le_of_eq eq0.symm) (hval 0 25 v0 rfl rfl) h0;have k1:=h1;have lt1:∀ x∈p1,x.block<W.heap.size:=by obtain ⟨m,hm⟩:=k1;exact DataW.trod_lt m _ _ _ hm
 obtain ⟨s1,x1,rfl,o1⟩:=open_OoS (hval 1 31 v1 rfl rfl) h1;have rg:=of_laid hL;clear hA0 hval0;refine (modelStays_any o0 o1 (Nat.le_of_eq eq0) rg).mono fun e W' hR=>?_;obtain ⟨v,he,hv,bel⟩:=hR;subst hv;subst he;exact ⟨_,rfl,_,_,_,[],_,[],hW',trodAll_mk1 (shut_bool (show prog.underlying 4=some .bool by kernel_rfl) _),(trodAll_cons_mk (Below.trod laidOut (by kernel_rfl) (of_decide_eq_true (by kernel_rfl)) k0 bel lt0) (trodAll_cons_mk (Below.trod laidOut (by kernel_rfl) (of_decide_eq_true (by kernel_rfl)) k1 bel lt1) trodAll_mk0)),rfl,bel.frame _,fun h=>by cases h⟩
theorem named:Tryz.pinned.checked.prog.funcNamed Rows.modelStaysRow.func=some 5:=by kernel_rfl
theorem joined1:(Rows.modelStaysRow.inPlace == Tryz.pinned.checked.prog.inPlace 5)=true:=by kernel_rfl
theorem joined2:(Rows.modelStaysRow.unfollowed == Tryz.pinned.checked.prog.unfollowed 5)=true:=by kernel_rfl
theorem joined3:(Rows.modelStaysRow.recurses == Tryz.pinned.checked.prog.recurses 5)=true:=by kernel_rfl
theorem joined4:(Rows.modelStaysRow.named == Tryz.pinned.checked.prog.varsNamed 5)=true:=by kernel_rfl
theorem joined:joinedFacts Tryz.pinned.checked.prog 5 Tryz.f5 Rows.modelStaysSpec Rows.modelStaysRow=true:=by
 unfold joinedFacts;rw [joined1,joined2,joined3,joined4];kernel_rfl
theorem over:Rows.modelStaysRow.holds Tryz.pinned (OpenSpec.ofChange Rows.modelStaysSpec) :=
 OpenClaim.holds_of_wide 5 Tryz.f5 rfl rfl rfl rfl rfl rfl rfl ⟨rfl,rfl,rfl,rfl,rfl⟩ rfl rfl rfl rfl rfl named func5 joined
  (of_decide_eq_true (by kernel_rfl)) (by unfold Func.isWrapper;first | (rw [if_pos (by decide +kernel)];kernel_rfl) | (rw [if_neg (by decide +kernel)];exact ⟨rfl,rfl⟩))
  (fun os started H enc _=>lifted os started H enc)
end modelStays
theorem modelStays_said:Rows.ModelStaysSaid:=modelStays.over
theorem modelStays_holds:Rows.ModelStaysCardSaid :=
 Claim7.holds_tied_plain_at .later [] [.data, .data, .data] true (true, "9c7bff1ca64ea03e7795a20d62d065c05cb8e964cd1f0fef88f73ea1724732aa") false
  modelStays_said (fun _ h=>by cases h) (by kernel_rfl) (fun _ h=>by cases h) modelStays_row_tie rfl ⟨rfl,rfl⟩ (by kernel_rfl) rfl
  (fun f fn hf hfn=>by
   obtain rfl:f=5:=Option.some.inj (modelStays.named.symm.trans hf) |>.symm
   obtain rfl:fn=Tryz.f5:=(Option.some.inj (func5.symm.trans hfn)).symm;exact ⟨by kernel_rfl,fun j t ht=>by
    rw [Tryz.params5] at ht;have hm:t∈[25,31]:=by simpa using Array.mem_of_getElem? ht
    have hall:([25,31].all fun u=>!prog.wantsStandIn u)=true:=by kernel_rfl
    exact (show prog.wantsStandIn t=false by simpa using List.all_eq_true.1 hall t hm)⟩)
  (by kernel_rfl)
end Go.Proofs.YtjjdcnkbibkmkaaGreatDoor
