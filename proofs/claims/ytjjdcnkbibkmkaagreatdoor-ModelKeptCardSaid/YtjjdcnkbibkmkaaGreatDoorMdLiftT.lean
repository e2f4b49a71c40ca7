/-
  The tables of places and of numbers as the program's text lays them.
-/
import Derived.Test.YtjjdcnkbibkmkaaGreatDoorKitH
import Derived.Test.YtjjdcnkbibkmkaaGreatDoorKitL
import Derived.LaidMore
import Derived.Stop.Joined
import Derived.Lib.LaidU8
namespace Go.Proofs.YtjjdcnkbibkmkaaGreatDoor
open Go.Proofs.Tryz
open Go.ChangeShapes Go.WideShapes Go.ChangeAt Go.RowKit
set_option linter.unusedVariables false

abbrev laidG:List (String × DataW Unit):=Rows.modelIsRow.laid
theorem gNum : prog.globalNamed (Rows.modelIsRow.named.getD 1 "") = some 1 := by kernel_rfl
theorem tNum:(prog.globals[1]?).map (·.type)=some 232:=by kernel_rfl
theorem laid_eq:(Rows.laid_math_bits_deBruijn64tab:DataW Unit)=.agg ((List.range 64).map fun i=>.lit (.int .u8 (vb (tab i)))):=by kernel_rfl
theorem cellsU:prog.cellsOf 5=1:=by kernel_rfl
theorem cellsO:prog.cellsOf 232=64:=by kernel_rfl
theorem huT:prog.underlying 232=some (.array 64 5):=by kernel_rfl
theorem huE:prog.underlying 5=some (.int .u8):=by kernel_rfl
theorem gNumK : prog.globalNamed (Rows.modelIsRow.named.getD 2 "") = some 2 := by kernel_rfl
theorem tNumK:(prog.globals[2]?).map (·.type)=some 247:=by kernel_rfl
theorem laid_eqK:(Rows.laid_cordwood_block_numbers:DataW Unit)=.agg ((List.range 64).map fun i=>.lit (.int .u32 (vw (num i)))):=by kernel_rfl
theorem cellsK:prog.cellsOf 199=1:=by kernel_rfl
theorem cellsKs:prog.cellsOf 247=64:=by kernel_rfl
theorem of_laid {W:World} (h:laidMetH prog laidG W):Tt W:=by
 rw [MakeChecks.laidMetH_plain _ _ _ (by kernel_rfl)] at h;obtain ⟨ps,⟨_,_,_,_,_,q0,_,_,_,_,⟨g0,t0,cs,f0,p0,q1,hg0,ht0,hv0,hd0,⟨g2,t2,cs2,f2,p2,_,hg2,ht2,hv2,hd2,_,hqs2⟩,hqs⟩,hps⟩,_,hfr⟩:=h;constructor
 ·obtain rfl:=Option.some.inj (gNum.symm.trans hg0);obtain rfl:=Option.some.inj (tNum.symm.trans ht0);rw [laid_eq] at hd0;obtain ⟨xs,m,_,hx,hlen,hxl,hel⟩:=DataW.trod_array huT hd0;rw [cellsO] at hlen;have hcs:cs=cB 64 tab:=by
   refine Array.ext_getElem? fun i=>?_;by_cases hi:i<64
   ·have h1:=hel i hi;rw [cellsU,Nat.mul_one,List.getElem?_eq_getElem (by omega)] at h1;obtain ⟨z,hz,hxe,_⟩:=DataW.trod_int huE h1;have h2:(xs.map (·.1))[i]?=some (DataW.lit (.int .u8 (vb (tab i)))):=by
     have:=congrArg Prod.fst hx;simp only [DataW.agg.injEq] at this;rw [<-this];simp [hi]
    rw [List.getElem?_map,List.getElem?_eq_getElem (by omega),Option.map_some,hxe] at h2;have h3:z=vb (tab i):=by simpa using h2
    rw [cB_get hi];have:=one_at hz;rw [h3] at this;simpa using this
   have hl:cs.size=64:=by simpa using hlen
   rw [Array.getElem?_eq_none (by omega),Array.getElem?_eq_none (by rw [cB_size];omega)]
  have hm:MemPlace.cell 1 0∈ps:=by
   rw [hps,hqs,hcs];simp [MemPlace.row,cB_size]
  obtain ⟨⟨c,tg,hh⟩,_⟩:=hfr 1 0 hm;refine ⟨tg,?_⟩;have hc:c=cs:=by
   simp only [World.var?,hg0,Option.bind_some,hh] at hv0;exact Option.some.inj hv0
  unfold RowAt;rw [hh,hc,hcs]
 obtain rfl:=Option.some.inj (gNumK.symm.trans hg2);obtain rfl:=Option.some.inj (tNumK.symm.trans ht2);rw [laid_eqK] at hd2;obtain ⟨xs,m,_,hx,hlen,hxl,hel⟩:=DataW.trod_array hu64 hd2;rw [cellsKs] at hlen;have hcs:cs2=cW 64 num:=by
  refine Array.ext_getElem? fun i=>?_;by_cases hi:i<64
  ·have h1:=hel i hi;rw [cellsK,Nat.mul_one,List.getElem?_eq_getElem (by omega)] at h1;obtain ⟨z,hz,hxe,_⟩:=DataW.trod_int huw h1;have h2:(xs.map (·.1))[i]?=some (DataW.lit (.int .u32 (vw (num i)))):=by
    have:=congrArg Prod.fst hx;simp only [DataW.agg.injEq] at this;rw [<-this];simp [hi]
   rw [List.getElem?_map,List.getElem?_eq_getElem (by omega),Option.map_some,hxe] at h2;have h3:z=vw (num i):=by simpa using h2
   rw [cW_get hi];have:=one_at hz;rw [h3] at this;simpa using this
  have hl:cs2.size=64:=by simpa using hlen
  rw [Array.getElem?_eq_none (by omega),Array.getElem?_eq_none (by rw [cW_size];omega)]
 have hm:MemPlace.cell 2 0∈ps:=by
  rw [hps,hqs,hqs2,hcs];simp [MemPlace.row,cW_size]
 obtain ⟨⟨c,tg,hh⟩,_⟩:=hfr 2 0 hm;refine ⟨tg,?_⟩;have hc:c=cs2:=by
  simp only [World.var?,hg2,Option.bind_some,hh] at hv2;exact Option.some.inj hv2
 unfold RowAt;rw [hh,hc,hcs]
end Go.Proofs.YtjjdcnkbibkmkaaGreatDoor
