/-
  For any script and question: asked between any two operations it leaves the state, is answered twice alike, and all other answers are as without it. The arguments read afterwards as before.
  No condition but the row's own: the two tables of package math/bits and the numbers of package block are read as the program's text lays them; the card ties them to that text, of the pruned copy.
-/
import Derived.Test.YtjjdcnkbibkmkaaGreatDoorCards
import Derived.Test.YtjjdcnkbibkmkaaGreatDoorTie
import Derived.Test.YtjjdcnkbibkmkaaGreatDoorMdLiftT
import Derived.Test.YtjjdcnkbibkmkaaGreatDoorMdLift
import Derived.Test.YtjjdcnkbibkmkaaGreatDoorMdAsks
import Derived.SevenTiedAt
import Derived.JoinedOf
namespace Go.Proofs.YtjjdcnkbibkmkaaGreatDoor
open Go.Proofs.Tryz
open Go.ChangeShapes Go.WideShapes Go.ChangeAt Go.RowKit
set_option linter.unusedVariables false
namespace modelAsks
theorem door_met (os:Os) (args:Array Value):laidMetH prog laidG ((World.doorLaid prog 4000 os).forCall (fun _ _=>0) ⟨#[],args,[]⟩).memory :=
 laidMetH_of_parts3 (fuel:=8) (laidMet_of_run' 8 (by kernel_rfl) (by kernel_rfl)) (by kernel_rfl) (by kernel_rfl)
set_option maxRecDepth 100000 in
theorem lifted (os:Os) (started:os.Started) (H:Type) (enc:TypeId × Value->H) :
  ReturnsInHanded {} Tryz.checked os 8 .any (fun w args=>(Rows.modelAsksSpec.pre enc prog Tryz.f8 [] false w args/\laidMetH prog laidG w)/\sizedMet enc prog Tryz.f8 (OpenSpec.ofChange Rows.modelAsksSpec) false w args)
   (Rows.modelAsksSpec.post enc prog Tryz.f8 false true false false):=by
 refine returnsInHanded_of_change_and (C:=Tryz.checked) (X:=fun w _=>laidMetH prog laidG w) (fun _ _ _ hh h=>h.of_heap hh) own started (by kernel_rfl) func8
  (ChangeSpec.witness_shaped (enc:=enc) (C:=Tryz.checked) (os:=os) (X:=fun w _=>laidMetH prog laidG w) false (World.doorLaid prog 4000 os) #[.slice none 0 0,.int .i64 0,.int .i64 0,.int .i64 0] 8 rfl (World.shaped_of_RefB (by kernel_rfl) (by kernel_rfl)) (by kernel_rfl) (by kernel_rfl) (by kernel_rfl) (door_met os _)) ?_
 intro W base args ds gs before hval0 hW _ _ hL _;have hval:∀ (j:Nat) t v,Tryz.f8.params[j]?=some t->args[j]?=some v->Value.okWide prog W .any base t v:=hval0;have hW':=hW;obtain ⟨p,q,hA0,hV,rfl,hfz,hnd⟩:=hW;have hA:DataW.TrodAll enc prog W 0 (fun _=>true) true Tryz.f8.params.toList args.toList ds p:=hA0;rw [Tryz.params8] at hA hval;obtain ⟨inst,eq0⟩:∃ _:Lo,lowB=W.heap.size:=⟨⟨⟨W.heap.size⟩⟩,rfl⟩;obtain ⟨v0,vs0,d0,ds0,p0,q0,hargs,rfl,rfl,h0,r0⟩:=trodAll_cons hA;obtain ⟨v1,vs1,d1,ds1,p1,q1,rfl,rfl,rfl,h1,r1⟩:=trodAll_cons r0;obtain ⟨v2,vs2,d2,ds2,p2,q2,rfl,rfl,rfl,h2,r2⟩:=trodAll_cons r1;obtain ⟨v3,vs3,d3,ds3,p3,q3,rfl,rfl,rfl,h3,r3⟩:=trodAll_cons r2;obtain ⟨rfl,rfl,rfl⟩:=trodAll_nil r3;obtain rfl:args=#[v0,v1,v2,v3]:=by cases args;simp_all
 obtain ⟨rfl,rfl⟩:=trodVars_none hV;have k0:=h0;have lt0:∀ x∈p0,x.block<W.heap.size:=by obtain ⟨m,hm⟩:=k0;exact DataW.trod_lt m _ _ _ hm
 obtain ⟨s0,x0,rfl,o0⟩:=open_rowOoS (hval 0 44 v0 rfl rfl) h0;have k1:=h1;have lt1:∀ x∈p1,x.block<W.heap.size:=by obtain ⟨m,hm⟩:=k1;exact DataW.trod_lt m _ _ _ hm
 obtain ⟨n1,rfl⟩:=okWide_int (show prog.underlying 3=some (.int .i64) by kernel_rfl) (hval 1 3 v1 rfl rfl);have k2:=h2;have lt2:∀ x∈p2,x.block<W.heap.size:=by obtain ⟨m,hm⟩:=k2;exact DataW.trod_lt m _ _ _ hm
 obtain ⟨n2,rfl⟩:=okWide_int (show prog.underlying 3=some (.int .i64) by kernel_rfl) (hval 2 3 v2 rfl rfl);have k3:=h3;have lt3:∀ x∈p3,x.block<W.heap.size:=by obtain ⟨m,hm⟩:=k3;exact DataW.trod_lt m _ _ _ hm
 obtain ⟨n3,rfl⟩:=okWide_int (show prog.underlying 3=some (.int .i64) by kernel_rfl) (hval 3 3 v3 rfl rfl);have rg:=of_laid hL;clear hA0 hval0;refine (modelAsks_any o0 n1 n2 n3 (Nat.le_of_eq eq0) rg).mono fun e W' hR=>?_;obtain ⟨v,he,hv,bel⟩:=hR;subst hv;subst he;exact ⟨_,rfl,_,_,_,[],_,[],hW',trodAll_mk1 (shut_bool (show prog.underlying 4=some .bool by kernel_rfl) _),(trodAll_cons_mk (Below.trod laidOut (by kernel_rfl) (of_decide_eq_true (by kernel_rfl)) k0 bel lt0) (trodAll_cons_mk (Below.trod laidOut (by kernel_rfl) (of_decide_eq_true (by kernel_rfl)) k1 bel lt1) (trodAll_cons_mk (Below.trod laidOut (by kernel_rfl) (of_decide_eq_true (by kernel_rfl)) k2 bel lt2) (trodAll_cons_mk (Below.trod laidOut (by kernel_rfl) (of_decide_eq_true (by kernel_rfl)) k3 bel lt3) trodAll_mk0)))),rfl,bel.frame _,fun h=>by cases h⟩
theorem named:Tryz.pinned.checked.prog.funcNamed Rows.modelAsksRow.func=some 8:=by kernel_rfl
theorem joined1:(Rows.modelAsksRow.inPlace == Tryz.pinned.checked.prog.inPlace 8)=true:=by kernel_rfl
theorem joined2:(Rows.modelAsksRow.unfollowed == Tryz.pinned.checked.prog.unfollowed 8)=true:=by kernel_rfl
theorem joined3:(Rows.modelAsksRow.recurses == Tryz.pinned.checked.prog.recurses 8)=true:=by kernel_rfl
theorem joined4:(Rows.modelAsksRow.named == Tryz.pinned.checked.prog.varsNamed 8)=true:=by kernel_rfl
theorem joined:joinedFacts Tryz.pinned.checked.prog 8 Tryz.f8 Rows.modelAsksSpec Rows.modelAsksRow=true:=by
 unfold joinedFacts;rw [joined1,joined2,joined3,joined4];kernel_rfl
theorem over:Rows.modelAsksRow.holds Tryz.pinned (OpenSpec.ofChange Rows.modelAsksSpec) :=
 OpenClaim.holds_of_wide 8 Tryz.f8 rfl rfl rfl rfl rfl rfl rfl ⟨rfl,rfl,rfl,rfl,rfl⟩ rfl rfl rfl rfl rfl named func8 joined
  (of_decide_eq_true (by kernel_rfl)) (by unfold Func.isWrapper;first | (rw [if_pos (by decide +kernel)];kernel_rfl) | (rw [if_neg (by decide +kernel)];exact ⟨rfl,rfl⟩))
  (fun os started H enc _=>lifted os started H enc)
end modelAsks
theorem modelAsks_said:Rows.ModelAsksSaid:=modelAsks.over
theorem modelAsks_holds:Rows.ModelAsksCardSaid :=
 Claim7.holds_tied_plain_at .later [] [.data, .data, .data] true (true, "9c7bff1ca64ea03e7795a20d62d065c05cb8e964cd1f0fef88f73ea1724732aa") false
  modelAsks_said (fun _ h=>by cases h) (by kernel_rfl) (fun _ h=>by cases h) modelAsks_row_tie rfl ⟨rfl,rfl⟩ (by kernel_rfl) rfl
  (fun f fn hf hfn=>by
   obtain rfl:f=8:=Option.some.inj (modelAsks.named.symm.trans hf) |>.symm
   obtain rfl:fn=Tryz.f8:=(Option.some.inj (func8.symm.trans hfn)).symm;exact ⟨by kernel_rfl,fun j t ht=>by
    rw [Tryz.params8] at ht;have hm:t∈[44,3,3,3]:=by simpa using Array.mem_of_getElem? ht
    have hall:([44,3,3,3].all fun u=>!prog.wantsStandIn u)=true:=by kernel_rfl
    exact (show prog.wantsStandIn t=false by simpa using List.all_eq_true.1 hall t hm)⟩)
  (by kernel_rfl)
end Go.Proofs.YtjjdcnkbibkmkaaGreatDoor
