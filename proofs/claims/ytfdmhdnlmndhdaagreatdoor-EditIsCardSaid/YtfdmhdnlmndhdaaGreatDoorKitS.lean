/-
  KitS: ShBase, ShSmall, ShCut, ShProg, ShRefW, ShRef, HsSum.
-/
import Derived.Test.YtfdmhdnlmndhdaaGreatDoorKitA
import Derived.Test.YtfdmhdnlmndhdaaGreatDoorKitB
import Derived.Test.YtfdmhdnlmndhdaaGreatDoorKitV
namespace Go.Proofs.YtfdmhdnlmndhdaaGreatDoor
open Go.ChangeShapes Go.WideShapes Go.ChangeAt Go.RowKit
set_option linter.unusedVariables false

/- ShBase:
  States of a sum as values; what the chapter's functions answer, as plain functions.
-/
/-- The cells of a state. -/
def cS (h:Nat→BitVec 32) (s:Value) (k:Int):Array Value:=#[wv (h 0),wv (h 1),wv (h 2),wv (h 3),wv (h 4),wv (h 5),wv (h 6),wv (h 7),s,.int .i64 k]
theorem cS_part (h:Nat→BitVec 32) (s:Value) (k:Int):(cS h s k).extract 0 (0+8)=cW 8 h:=rfl
theorem cS_8 (h:Nat→BitVec 32) (s:Value) (k:Int):(cS h s k)[8]?=some s:=rfl
theorem cS_9 (h:Nat→BitVec 32) (s:Value) (k:Int):(cS h s k)[9]?=some (nv k):=rfl
theorem cS_one (h:Nat→BitVec 32) (A:Option Addr) (m c:Nat) (k:Int):(cS h (.slice A m c) k).all (·.oneCell')=true:=by simp [cS,wv,Value.oneCell']
theorem cS_set (h g:Nat→BitVec 32) (s:Value) (k:Int):((cS h s k).toList.take 0++(cW 8 g).toList++(cS h s k).toList.drop (0+(cW 8 g).size)).toArray=cS g s k:=rfl
theorem cS_all (h:Nat→BitVec 32) (s:Value) (k:Int):(cS h s k).extract 0 (0+10)=cS h s k:=rfl
theorem cS_no {h:Nat→BitVec 32} {A:Option Addr} {m c:Nat} {k:Int}:NoOct (cS h (.slice A m c) k):=by
 intro i z e
 match i,e with
 | 0,e | 1,e | 2,e | 3,e | 4,e | 5,e | 6,e | 7,e | 8,e | 9,e=>simp [cS,wv] at e
 | i+10,e=>simp [cS] at e
theorem cB64_part (F:Nat→BitVec 8):(cB 64 F).extract 0 (0+64)=cB 64 F:=by
 have h:=Array.extract_size (xs:=cB 64 F)
 rw [cB_size] at h
 exact h
theorem cB_ext {n:Nat} {F G:Nat→BitVec 8} (h:∀ i,i<n→F i=G i):cB n F=cB n G:=by
 unfold cB
 refine congrArg _ (List.map_congr_left fun i hi=>?_)
 rw [h i (by simpa using hi)]
theorem cW8_part (h:Nat→BitVec 32):(cW 8 h).extract 0 (0+8)=cW 8 h:=rfl
theorem hsS (h:Nat→BitVec 32) (s:Value) (k:Int):(Tryz.prog.info? 142).map (·.size)=some (cS h s k).size:=by kernel_rfl
theorem hsR (h:Nat→BitVec 32) (s:Value) (k:Int):(Tryz.prog.info? 135).map (·.size)=some (cS h s k).size:=by kernel_rfl
theorem hzS:(Tryz.prog.info? 142).map (fun i=>(i.zero,i.size))=some (some (.agg (cS (fun _=>0) (.slice none 0 0) 0)),(cS (fun _=>0) (.slice none 0 0) 0).size):=by kernel_rfl
theorem hzR:(Tryz.prog.info? 135).map (fun i=>(i.zero,i.size))=some (some (.agg (cS (fun _=>0) (.slice none 0 0) 0)),(cS (fun _=>0) (.slice none 0 0) 0).size):=by kernel_rfl
theorem hzM:(Tryz.prog.info? 161).map (fun i=>(i.zero,i.size))=some (some (.agg (cW 8 fun _=>0)),(cW 8 fun _=>0).size):=by kernel_rfl
theorem hsM (h:Nat→BitVec 32):(Tryz.prog.info? 161).map (·.size)=some (cW 8 h).size:=by rw [cW_size];kernel_rfl

theorem bS3 (h:Nat→BitVec 32) {A:Option Addr} {m c:Nat} (h':Unit) (k:Int):Tryz.prog.built 142 [(0,.agg (cW 8 h)),(1,.slice A m c),(2,nv k)]=some (cS h (.slice A m c) k):=by kernel_rfl
theorem bR3 (h:Nat→BitVec 32) {A:Option Addr} {m c:Nat} (h':Unit) (k:Int):Tryz.prog.built 135 [(0,.agg (cW 8 h)),(1,.slice A m c),(2,nv k)]=some (cS h (.slice A m c) k):=by kernel_rfl
theorem bS1 (h:Nat→BitVec 32):Tryz.prog.built 142 [(0,.agg (cW 8 h))]=some (cS h (.slice none 0 0) 0):=by kernel_rfl
theorem bR1 (h:Nat→BitVec 32):Tryz.prog.built 135 [(0,.agg (cW 8 h))]=some (cS h (.slice none 0 0) 0):=by kernel_rfl
theorem bM (h:Nat→BitVec 32):Tryz.prog.built 161 [(0,.agg (cW 8 h))]=some (cW 8 h):=by kernel_rfl
theorem bO:Tryz.prog.built 154 []=some (cB 64 fun _=>0):=by kernel_rfl

/-- What a state says. -/
structure S where
 h:Nat→BitVec 32
 b:List Int
 n:Int
def S.new:S:=⟨firstF,[],0⟩
def S.ok (s:S):Prop:=s.b.length<64∧0≤s.n∧s.n≤1125899906842624
instance (s:S):Decidable s.ok:=inferInstanceAs (Decidable (_∧_))
def S.as (s:S):S:=if s.ok then s else S.new
def blkS (xs:List Int) (t:Nat):Nat→BitVec 8:=fun i=>toB (xs.getD (64*t+i) 0)
def fold (h:Nat→BitVec 32) (xs:List Int):Nat→Nat→BitVec 32
 | 0=>h
 | t+1=>mixF (fold h xs t) (blkS xs t)
def hOf (h:Nat→BitVec 32) (xs:List Int):Nat→BitVec 32:=fold h xs (xs.length / 64)
def rest (xs:List Int):List Int:=xs.drop (64*(xs.length / 64))
def S.wr (s:S) (ys:List Int):S :=
 if s.as.n+ys.length>1125899906842624 then S.new else ⟨hOf s.as.h (s.as.b++ys),rest (s.as.b++ys),s.as.n+ys.length⟩
def be4 (x:BitVec 32):List Int:=[vb ((x >>> 24).setWidth 8),vb ((x >>> 16).setWidth 8),vb ((x >>> 8).setWidth 8),vb (x.setWidth 8)]
def outF (h:Nat→BitVec 32):Nat→List Int
 | 0=>[]
 | i+1=>outF h i++be4 (h i)
def be8 (n:Int):Nat→List Int
 | 0=>[]
 | i+1=>be8 n i++[n / 2 ^ (8*(7-i)) % 256]
def zeroN (n:Int):Nat:=((64-(n+9) % 64) % 64).toNat
def padL (n:Int):List Int:=if 0≤n∧n≤1125899906842624 then 128::(List.replicate (zeroN n) 0++be8 (n*8) 8) else []
def S.done (s:S):List Int:=outF (s.as.wr (padL s.as.n)).h 8
def sumL (xs:List Int):List Int:=(S.new.wr xs).done

/-- A value that reads as a state, behind which nothing that was there has changed. -/
def StR (w:World) (s:S) (v:Value) (w':World):Prop :=
 ∃ A m c,v=.agg (cS s.h (.slice A m c) s.n)∧Oct w' w'.heap.size A m s.b∧Below w.heap.size w w'
def SlR (w:World) (xs:List Int) (v:Value) (w':World):Prop :=
 ∃ A m c,v=.slice A m c∧m≤c∧Oct w' w'.heap.size A m xs∧Below w.heap.size w w'
theorem S.as_ok {s:S} (h:s.ok):s.as=s:=if_pos h
theorem S.as_no {s:S} (h:¬s.ok):s.as=S.new:=if_neg h
theorem S.new_ok:S.new.ok:=⟨by simp [S.new],by simp [S.new],by simp [S.new]⟩
theorem S.as_b (s:S):s.as.b.length<64:=by
 by_cases h:s.ok
 ·rw [S.as_ok h];exact h.1
 rw [S.as_no h];exact S.new_ok.1
theorem S.as_n (s:S):0≤s.as.n∧s.as.n≤1125899906842624:=by
 by_cases h:s.ok
 ·rw [S.as_ok h];exact h.2
 rw [S.as_no h];exact S.new_ok.2
/- ShSmall:
  Contracts of the small functions of the sum and of the document: new states, what a state counts as, states handed on.
-/
set_option maxRecDepth 20000
theorem new_any (w:World):Calls Tryz.prog 166 #[] w fun e w'=>∃ v,e=.returned v∧StR w S.new v w':=by
 refine Qf (n:=3) Tryz.func166 rfl Tryz.ntmps166 (by simp) ?_
 show CG _ _ _ [] _ _
 have u:=Below.refl w.heap.size w
 refine Zr ?_
 refine lg_allocw Wn rfl hzS rfl (by decide) fun b1 w1 n1=>?_
 have r1:=n1.row
 have k1:=n1.blk
 have z1:=n1.size
 refine Zn [0] ?_
 refine Zr ?_
 refine Zc (first_any _) rfl rfl ?_
 rintro _ w2 ⟨rfl,hw2⟩
 have zw2:=hw2.size
 refine Za (y_build rfl rfl (bS1 _)) ?_
 have r1:=RowAt.below hw2 r1.lt r1
 have qw3:=r1
 refine lg_stw Wn r1 rfl rfl rfl (hsS _ _ _) (cS_one _ _ _ _ _) rfl rfl fun w3 sw3=>?_
 have r1:=sw3.row
 have zw3:=sw3.size
 refine Znr [0] ?_
 have u:=Un (Un u n1.below) hw2
 have u:=u.trans (sw3.below _ (by omega))
 exact eg_ret_agg rfl rfl r1 (by kernel_rfl) (hsS _ _ _) ⟨_,rfl,none,0,0,rfl,Oct.nil _ _ _,u⟩
theorem rnew_any (w:World):Calls Tryz.prog 157 #[] w fun e w'=>∃ v,e=.returned v∧StR w S.new v w':=by
 refine Qf (n:=3) Tryz.func157 rfl Tryz.ntmps157 (by simp) ?_
 show CG _ _ _ [] _ _
 have u:=Below.refl w.heap.size w
 refine Zr ?_
 refine lg_allocw Wn rfl hzR rfl (by decide) fun b1 w1 n1=>?_
 have r1:=n1.row
 have k1:=n1.blk
 have z1:=n1.size
 refine Zn [0] ?_
 refine Zr ?_
 refine Zc (rfirst_any _) rfl rfl ?_
 rintro _ w2 ⟨rfl,hw2⟩
 have zw2:=hw2.size
 refine Za (y_build rfl rfl (bR1 _)) ?_
 have r1:=RowAt.below hw2 r1.lt r1
 have qw3:=r1
 refine lg_stw Wn r1 rfl rfl rfl (hsR _ _ _) (cS_one _ _ _ _ _) rfl rfl fun w3 sw3=>?_
 have r1:=sw3.row
 have zw3:=sw3.size
 refine Znr [0] ?_
 have u:=Un (Un u n1.below) hw2
 have u:=u.trans (sw3.below _ (by omega))
 exact eg_ret_agg rfl rfl r1 (by kernel_rfl) (hsR _ _ _) ⟨_,rfl,none,0,0,rfl,Oct.nil _ _ _,u⟩
theorem counted_any (k:Int) (w:World):Calls Tryz.prog 216 #[nv k] w fun e w'=>e=.returned (.bool (decide (0≤k∧k≤1125899906842624)))∧w'=w:=by
 by_cases h0:0≤k
 ·refine Qf (n:=9) Tryz.func216 rfl Tryz.ntmps216 (by simp) ?_
  show CG _ _ _ [(0,nv k)] _ _
  have u:=Below.refl w.heap.size w
  refine ZrA ?_
  refine Zn [0,2] ?_
  refine ZrM ?_
  refine Za (yb (dT h0) yi_geq) ?_
  refine ZM ?_
  refine Zt 5 y_move ?_
  refine Zt 5 yi_leq ?_
  refine Za (y_pick true) ?_
  refine ZAnr [2] ?_
  exact Qa rfl rfl ⟨by simp [h0],rfl⟩
 refine Qf (n:=9) Tryz.func216 rfl Tryz.ntmps216 (by simp) ?_
 show CG _ _ _ [(0,nv k)] _ _
 have u:=Below.refl w.heap.size w
 refine ZrA ?_
 refine Zn [0,2] ?_
 refine ZrM ?_
 refine Za (yb (dF h0) yi_geq) ?_
 refine ZM ?_
 refine Zf 5 ?_
 refine Zf 5 ?_
 refine Za (y_pick false) ?_
 refine ZAnr [2] ?_
 exact Qa rfl rfl ⟨by simp [h0],rfl⟩
theorem sound_any (s:S) (A:Option Addr) (m c:Nat) (w:World) (o0:Oct w w.heap.size A m s.b):Calls Tryz.prog 186 #[.agg (cS s.h (.slice A m c) s.n)] w fun e w'=>∃ v,e=.returned v∧StR w s.as v w':=by
 have hl:=o0.1
 by_cases h64:64≤m
 ·refine Qf (n:=15) Tryz.func186 rfl Tryz.ntmps186 (by simp) ?_
  show CG _ _ _ [(0,.agg (cS s.h (.slice A m c) s.n))] _ _
  have u:=Below.refl w.heap.size w
  refine Zr ?_
  refine lg_boxw Wn rfl rfl (hsS _ _ _) rfl (by decide) fun b1 w1 n1=>?_
  have r1:=n1.row
  have k1:=n1.blk
  have z1:=n1.size
  refine lg_allocw Wn rfl hzS rfl (by decide) fun b2 w2 n2=>?_
  have r2:=n2.row
  have k2:=n2.blk
  have z2:=n2.size
  refine Zn [1,2] ?_
  refine Qd ?_
  refine Zr ?_
  refine Za (y_fld (off:=8)) ?_
  have r1:=n2.keep r1
  refine Za (Qo r1 (cS_8 _ _ _) (by kernel_rfl) rfl rfl) ?_
  refine Za (y_len (el:=5)) ?_
  refine Za (yb (dT (by omega)) (yi_geq rfl rfl rfl)) ?_
  refine ZM ?_
  refine Zf 7 ?_
  refine Zf 7 ?_
  refine Zf 7 ?_
  refine Zf 7 ?_
  refine Zan (y_pick true) [1,2,12] ?_
  refine cg_ct rfl ?_
  refine Zr ?_
  refine Zc (new_any _) rfl rfl ?_
  rintro _ w3 ⟨A3,m3,c3,rfl,o3,hw3⟩
  have zw3:=hw3.size
  have r2:=RowAt.below hw3 r2.lt r2
  have qw4:=r2
  refine lg_stw Wn r2 rfl rfl rfl (hsS _ _ _) (cS_one _ _ _ _ _) rfl rfl fun w4 sw4=>?_
  have r2:=sw4.row
  have zw4:=sw4.size
  refine Znr [1,2] ?_
  refine Qc ?_
  have u:=Un (Un (Un u n1.below) n2.below) hw3
  have u:=u.trans (sw4.below _ (by omega))
  have o3:=o3.set qw4 cS_no sw4
  exact eg_ret_agg rfl rfl r2 (by kernel_rfl) (hsS _ _ _) (by rw [S.as_no (by unfold S.ok;omega)];exact ⟨_,rfl,_,_,_,rfl,o3.more (by omega),u⟩)
 by_cases hk:0≤s.n∧s.n≤1125899906842624
 ·refine Qf (n:=15) Tryz.func186 rfl Tryz.ntmps186 (by simp) ?_
  show CG _ _ _ [(0,.agg (cS s.h (.slice A m c) s.n))] _ _
  have u:=Below.refl w.heap.size w
  refine Zr ?_
  refine lg_boxw Wn rfl rfl (hsS _ _ _) rfl (by decide) fun b1 w1 n1=>?_
  have r1:=n1.row
  have k1:=n1.blk
  have z1:=n1.size
  refine lg_allocw Wn rfl hzS rfl (by decide) fun b2 w2 n2=>?_
  have r2:=n2.row
  have k2:=n2.blk
  have z2:=n2.size
  refine Zn [1,2] ?_
  refine Qd ?_
  refine Zr ?_
  refine Za (y_fld (off:=8)) ?_
  have r1:=n2.keep r1
  refine Za (Qo r1 (cS_8 _ _ _) (by kernel_rfl) rfl rfl) ?_
  refine Za (y_len (el:=5)) ?_
  refine Za (yb (dF (by omega)) (yi_geq rfl rfl rfl)) ?_
  refine ZM ?_
  refine Zt 7 (y_fld (off:=9)) ?_
  refine Zt 7 (Qo r1 (cS_9 _ _ _) (by kernel_rfl) rfl rfl) ?_
  refine Zt 7 (yb (dT hk) (Qp (counted_any _ _))) ?_
  refine Zt 7 y_bnot ?_
  refine Zan (y_pick false) [1,2,12] ?_
  refine Zcf [1,2] ?_
  refine Zr ?_
  refine Za (y_part r1 (m:=10) (cS_all _ _ _) (by show _≤10;omega) (by kernel_rfl) (by kernel_rfl) rfl rfl) ?_
  have qw3:=r2
  refine lg_stw Wn r2 rfl rfl rfl (hsS _ _ _) (cS_one _ _ _ _ _) rfl rfl fun w3 sw3=>?_
  have r2:=sw3.row
  have zw3:=sw3.size
  refine Znr [2] ?_
  have u:=Un (Un u n1.below) n2.below
  have u:=u.trans (sw3.below _ (by omega))
  have o0:=((o0.below (n1.below.mono (by omega))).below (n2.below.mono (by omega))).set qw3 cS_no sw3
  exact eg_ret_agg rfl rfl r2 (by kernel_rfl) (hsS _ _ _) (by rw [S.as_ok ⟨by omega,by omega,by omega⟩];exact ⟨_,rfl,_,_,_,rfl,o0.more u.size,u⟩)
 refine Qf (n:=15) Tryz.func186 rfl Tryz.ntmps186 (by simp) ?_
 show CG _ _ _ [(0,.agg (cS s.h (.slice A m c) s.n))] _ _
 have u:=Below.refl w.heap.size w
 refine Zr ?_
 refine lg_boxw Wn rfl rfl (hsS _ _ _) rfl (by decide) fun b1 w1 n1=>?_
 have r1:=n1.row
 have k1:=n1.blk
 have z1:=n1.size
 refine lg_allocw Wn rfl hzS rfl (by decide) fun b2 w2 n2=>?_
 have r2:=n2.row
 have k2:=n2.blk
 have z2:=n2.size
 refine Zn [1,2] ?_
 refine Qd ?_
 refine Zr ?_
 refine Za (y_fld (off:=8)) ?_
 have r1:=n2.keep r1
 refine Za (Qo r1 (cS_8 _ _ _) (by kernel_rfl) rfl rfl) ?_
 refine Za (y_len (el:=5)) ?_
 refine Za (yb (dF (by omega)) (yi_geq rfl rfl rfl)) ?_
 refine ZM ?_
 refine Zt 7 (y_fld (off:=9)) ?_
 refine Zt 7 (Qo r1 (cS_9 _ _ _) (by kernel_rfl) rfl rfl) ?_
 refine Zt 7 (yb (dF hk) (Qp (counted_any _ _))) ?_
 refine Zt 7 y_bnot ?_
 refine Zan (y_pick false) [1,2,12] ?_
 refine cg_ct rfl ?_
 refine Zr ?_
 refine Zc (new_any _) rfl rfl ?_
 rintro _ w3 ⟨A3,m3,c3,rfl,o3,hw3⟩
 have zw3:=hw3.size
 have r2:=RowAt.below hw3 r2.lt r2
 have qw4:=r2
 refine lg_stw Wn r2 rfl rfl rfl (hsS _ _ _) (cS_one _ _ _ _ _) rfl rfl fun w4 sw4=>?_
 have r2:=sw4.row
 have zw4:=sw4.size
 refine Znr [1,2] ?_
 refine Qc ?_
 have u:=Un (Un (Un u n1.below) n2.below) hw3
 have u:=u.trans (sw4.below _ (by omega))
 have o3:=o3.set qw4 cS_no sw4
 exact eg_ret_agg rfl rfl r2 (by kernel_rfl) (hsS _ _ _) (by rw [S.as_no (by unfold S.ok;omega)];exact ⟨_,rfl,_,_,_,rfl,o3.more (by omega),u⟩)
theorem ras_any (s:S) (A:Option Addr) (m c:Nat) (w:World) (o0:Oct w w.heap.size A m s.b):Calls Tryz.prog 179 #[.agg (cS s.h (.slice A m c) s.n)] w fun e w'=>∃ v,e=.returned v∧StR w s.as v w':=by
 have hl:=o0.1
 by_cases h64:64≤m
 ·refine Qf (n:=19) Tryz.func179 rfl Tryz.ntmps179 (by simp) ?_
  show CG _ _ _ [(0,.agg (cS s.h (.slice A m c) s.n))] _ _
  have u:=Below.refl w.heap.size w
  refine Zr ?_
  refine lg_boxw Wn rfl rfl (hsR _ _ _) rfl (by decide) fun b1 w1 n1=>?_
  have r1:=n1.row
  have k1:=n1.blk
  have z1:=n1.size
  refine lg_allocw Wn rfl hzR rfl (by decide) fun b2 w2 n2=>?_
  have r2:=n2.row
  have k2:=n2.blk
  have z2:=n2.size
  refine Zn [1,2] ?_
  refine Qd ?_
  refine Zr ?_
  refine Za (y_fld (off:=8)) ?_
  have r1:=n2.keep r1
  refine Za (Qo r1 (cS_8 _ _ _) (by kernel_rfl) rfl rfl) ?_
  refine Za (y_len (el:=5)) ?_
  refine Za (yb (dT (by omega)) (yi_geq rfl rfl rfl)) ?_
  refine ZM ?_
  refine Zf 7 ?_
  refine Zf 7 ?_
  refine Zf 7 ?_
  refine Za (y_pick true) ?_
  refine ZM ?_
  refine Zf 12 ?_
  refine Zf 12 ?_
  refine Zf 12 ?_
  refine Zan (y_pick true) [1,2,16] ?_
  refine cg_ct rfl ?_
  refine Zr ?_
  refine Zc (rnew_any _) rfl rfl ?_
  rintro _ w3 ⟨A3,m3,c3,rfl,o3,hw3⟩
  have zw3:=hw3.size
  have r2:=RowAt.below hw3 r2.lt r2
  have qw4:=r2
  refine lg_stw Wn r2 rfl rfl rfl (hsR _ _ _) (cS_one _ _ _ _ _) rfl rfl fun w4 sw4=>?_
  have r2:=sw4.row
  have zw4:=sw4.size
  refine Znr [1,2] ?_
  refine Qc ?_
  have u:=Un (Un (Un u n1.below) n2.below) hw3
  have u:=u.trans (sw4.below _ (by omega))
  have o3:=o3.set qw4 cS_no sw4
  exact eg_ret_agg rfl rfl r2 (by kernel_rfl) (hsR _ _ _) (by rw [S.as_no (by unfold S.ok;omega)];exact ⟨_,rfl,_,_,_,rfl,o3.more (by omega),u⟩)
 by_cases hk:s.n<0
 ·refine Qf (n:=19) Tryz.func179 rfl Tryz.ntmps179 (by simp) ?_
  show CG _ _ _ [(0,.agg (cS s.h (.slice A m c) s.n))] _ _
  have u:=Below.refl w.heap.size w
  refine Zr ?_
  refine lg_boxw Wn rfl rfl (hsR _ _ _) rfl (by decide) fun b1 w1 n1=>?_
  have r1:=n1.row
  have k1:=n1.blk
  have z1:=n1.size
  refine lg_allocw Wn rfl hzR rfl (by decide) fun b2 w2 n2=>?_
  have r2:=n2.row
  have k2:=n2.blk
  have z2:=n2.size
  refine Zn [1,2] ?_
  refine Qd ?_
  refine Zr ?_
  refine Za (y_fld (off:=8)) ?_
  have r1:=n2.keep r1
  refine Za (Qo r1 (cS_8 _ _ _) (by kernel_rfl) rfl rfl) ?_
  refine Za (y_len (el:=5)) ?_
  refine Za (yb (dF (by omega)) (yi_geq rfl rfl rfl)) ?_
  refine ZM ?_
  refine Zt 7 (y_fld (off:=9)) ?_
  refine Zt 7 (Qo r1 (cS_9 _ _ _) (by kernel_rfl) rfl rfl) ?_
  refine Zt 7 (yb (dT hk) yi_lss) ?_
  refine Za (y_pick false) ?_
  refine ZM ?_
  refine Zf 12 ?_
  refine Zf 12 ?_
  refine Zf 12 ?_
  refine Zan (y_pick true) [1,2,16] ?_
  refine cg_ct rfl ?_
  refine Zr ?_
  refine Zc (rnew_any _) rfl rfl ?_
  rintro _ w3 ⟨A3,m3,c3,rfl,o3,hw3⟩
  have zw3:=hw3.size
  have r2:=RowAt.below hw3 r2.lt r2
  have qw4:=r2
  refine lg_stw Wn r2 rfl rfl rfl (hsR _ _ _) (cS_one _ _ _ _ _) rfl rfl fun w4 sw4=>?_
  have r2:=sw4.row
  have zw4:=sw4.size
  refine Znr [1,2] ?_
  refine Qc ?_
  have u:=Un (Un (Un u n1.below) n2.below) hw3
  have u:=u.trans (sw4.below _ (by omega))
  have o3:=o3.set qw4 cS_no sw4
  exact eg_ret_agg rfl rfl r2 (by kernel_rfl) (hsR _ _ _) (by rw [S.as_no (by unfold S.ok;omega)];exact ⟨_,rfl,_,_,_,rfl,o3.more (by omega),u⟩)
 by_cases hk2:1125899906842624<s.n
 ·refine Qf (n:=19) Tryz.func179 rfl Tryz.ntmps179 (by simp) ?_
  show CG _ _ _ [(0,.agg (cS s.h (.slice A m c) s.n))] _ _
  have u:=Below.refl w.heap.size w
  refine Zr ?_
  refine lg_boxw Wn rfl rfl (hsR _ _ _) rfl (by decide) fun b1 w1 n1=>?_
  have r1:=n1.row
  have k1:=n1.blk
  have z1:=n1.size
  refine lg_allocw Wn rfl hzR rfl (by decide) fun b2 w2 n2=>?_
  have r2:=n2.row
  have k2:=n2.blk
  have z2:=n2.size
  refine Zn [1,2] ?_
  refine Qd ?_
  refine Zr ?_
  refine Za (y_fld (off:=8)) ?_
  have r1:=n2.keep r1
  refine Za (Qo r1 (cS_8 _ _ _) (by kernel_rfl) rfl rfl) ?_
  refine Za (y_len (el:=5)) ?_
  refine Za (yb (dF (by omega)) (yi_geq rfl rfl rfl)) ?_
  refine ZM ?_
  refine Zt 7 (y_fld (off:=9)) ?_
  refine Zt 7 (Qo r1 (cS_9 _ _ _) (by kernel_rfl) rfl rfl) ?_
  refine Zt 7 (yb (dF hk) yi_lss) ?_
  refine Za (y_pick false) ?_
  refine ZM ?_
  refine Zt 12 (y_fld (off:=9)) ?_
  refine Zt 12 (Qo r1 (cS_9 _ _ _) (by kernel_rfl) rfl rfl) ?_
  refine Zt 12 (yb (dT hk2) yi_gtr) ?_
  refine Zan (y_pick false) [1,2,16] ?_
  refine cg_ct rfl ?_
  refine Zr ?_
  refine Zc (rnew_any _) rfl rfl ?_
  rintro _ w3 ⟨A3,m3,c3,rfl,o3,hw3⟩
  have zw3:=hw3.size
  have r2:=RowAt.below hw3 r2.lt r2
  have qw4:=r2
  refine lg_stw Wn r2 rfl rfl rfl (hsR _ _ _) (cS_one _ _ _ _ _) rfl rfl fun w4 sw4=>?_
  have r2:=sw4.row
  have zw4:=sw4.size
  refine Znr [1,2] ?_
  refine Qc ?_
  have u:=Un (Un (Un u n1.below) n2.below) hw3
  have u:=u.trans (sw4.below _ (by omega))
  have o3:=o3.set qw4 cS_no sw4
  exact eg_ret_agg rfl rfl r2 (by kernel_rfl) (hsR _ _ _) (by rw [S.as_no (by unfold S.ok;omega)];exact ⟨_,rfl,_,_,_,rfl,o3.more (by omega),u⟩)
 refine Qf (n:=19) Tryz.func179 rfl Tryz.ntmps179 (by simp) ?_
 show CG _ _ _ [(0,.agg (cS s.h (.slice A m c) s.n))] _ _
 have u:=Below.refl w.heap.size w
 refine Zr ?_
 refine lg_boxw Wn rfl rfl (hsR _ _ _) rfl (by decide) fun b1 w1 n1=>?_
 have r1:=n1.row
 have k1:=n1.blk
 have z1:=n1.size
 refine lg_allocw Wn rfl hzR rfl (by decide) fun b2 w2 n2=>?_
 have r2:=n2.row
 have k2:=n2.blk
 have z2:=n2.size
 refine Zn [1,2] ?_
 refine Qd ?_
 refine Zr ?_
 refine Za (y_fld (off:=8)) ?_
 have r1:=n2.keep r1
 refine Za (Qo r1 (cS_8 _ _ _) (by kernel_rfl) rfl rfl) ?_
 refine Za (y_len (el:=5)) ?_
 refine Za (yb (dF (by omega)) (yi_geq rfl rfl rfl)) ?_
 refine ZM ?_
 refine Zt 7 (y_fld (off:=9)) ?_
 refine Zt 7 (Qo r1 (cS_9 _ _ _) (by kernel_rfl) rfl rfl) ?_
 refine Zt 7 (yb (dF hk) yi_lss) ?_
 refine Za (y_pick false) ?_
 refine ZM ?_
 refine Zt 12 (y_fld (off:=9)) ?_
 refine Zt 12 (Qo r1 (cS_9 _ _ _) (by kernel_rfl) rfl rfl) ?_
 refine Zt 12 (yb (dF hk2) yi_gtr) ?_
 refine Zan (y_pick false) [1,2,16] ?_
 refine Zcf [1,2] ?_
 refine Zr ?_
 refine Za (y_part r1 (m:=10) (cS_all _ _ _) (by show _≤10;omega) (by kernel_rfl) (by kernel_rfl) rfl rfl) ?_
 have qw3:=r2
 refine lg_stw Wn r2 rfl rfl rfl (hsR _ _ _) (cS_one _ _ _ _ _) rfl rfl fun w3 sw3=>?_
 have r2:=sw3.row
 have zw3:=sw3.size
 refine Znr [2] ?_
 have u:=Un (Un u n1.below) n2.below
 have u:=u.trans (sw3.below _ (by omega))
 have o0:=((o0.below (n1.below.mono (by omega))).below (n2.below.mono (by omega))).set qw3 cS_no sw3
 exact eg_ret_agg rfl rfl r2 (by kernel_rfl) (hsR _ _ _) (by rw [S.as_ok ⟨by omega,by omega,by omega⟩];exact ⟨_,rfl,_,_,_,rfl,o0.more u.size,u⟩)
/- ShCut:
  Contracts of how blocks are handed on and mixed in.
-/
set_option maxRecDepth 20000
/-- What is laid over what was there, and read. -/
theorem putF_blk {F:Nat→BitVec 8} {xs zs:List Int} {t k:Nat} (hk:k≤64) (h1:rd F k=(xs.drop (64*t)).take k) (hl:64*t+64≤xs.length) (hz:zs=xs.drop (64*t+k)) :
  ∀ i,i<64→putF F k (zs.take (64-k)) i=blkS xs t i:=by
 intro i hi
 subst hz
 have hlz:((xs.drop (64*t+k)).take (64-k)).length=64-k:=by rw [List.length_take,List.length_drop];omega
 unfold putF blkS
 rw [hlz]
 by_cases h:k≤i
 ·rw [if_pos ⟨h,by omega⟩]
  refine congrArg toB ?_
  simp only [List.getD]
  rw [List.getElem?_take,if_pos (by omega),List.getElem?_drop]
  rw [show 64*t+k+(i-k)=64*t+i by omega]
 rw [if_neg (by omega)]
 have h2:(rd F k)[i]?=((xs.drop (64*t)).take k)[i]?:=by rw [h1]
 rw [List.getElem?_take,if_pos (by omega),List.getElem?_drop] at h2
 have hik:i<k:=by omega
 have h3:(rd F k)[i]?=some (vb (F i)):=by simp [rd,hik]
 rw [h3] at h2
 simp only [List.getD]
 rw [←h2]
 show F i=toB (vb (F i))
 unfold toB
 rw [vb_ofInt]
theorem putF_rd {F:Nat→BitVec 8} {xs:List Int} (hx:∀ z∈xs,0≤z∧z≤255):rd (putF F 0 xs) xs.length=xs:=by
 refine List.ext_getElem? fun i=>?_
 by_cases h:i<xs.length
 ·have h1:(rd (putF F 0 xs) xs.length)[i]?=some (vb (putF F 0 xs i)):=by simp [rd,h]
  rw [h1,List.getElem?_eq_getElem h]
  unfold putF
  rw [if_pos ⟨Nat.zero_le _,by omega⟩,Nat.sub_zero,List.getD,List.getElem?_eq_getElem h]
  show some (vb (toB xs[i]))=_
  rw [vb_toB (hx _ (List.getElem_mem h))]
 rw [List.getElem?_eq_none (by rw [rd_len];omega),List.getElem?_eq_none (by omega)]
theorem mixer_any (h:Nat→BitVec 32) (F:Nat→BitVec 8) (bm:Nat) (w:World) {tg tm:TypeId} (rg:RowAt w 2 tg (cW 64 num)) (rm:RowAt w bm tm (cW 8 h)) (h0:bm≠2):Calls Tryz.prog 190 #[pv bm 0,.agg (cB 64 F)] w fun e w'=>∃ v,e=.returned v∧v=.tuple #[]∧RowAt w' bm tm (cW 8 (mixF h F))∧But w w' bm:=by
 refine Qf (n:=13) Tryz.func190 rfl Tryz.ntmps190 (by simp) ?_
 show CG _ _ _ [(0,pv bm 0),(1,.agg (cB 64 F))] _ _
 have bu:But w w bm:=But.refl bm
 have hm:=rm.lt
 refine Zr ?_
 refine lg_boxw Wn rfl rfl (hso _) rfl (by decide) fun b1 w1 n1=>?_
 have r1:=n1.row
 have k1:=n1.blk
 have z1:=n1.size
 refine Zn [0,3] ?_
 refine cg_heldS (fun q=>RowAt q b1 154 (cB 64 F)) (by kernel_rfl) (fun W2 eW2=>RowAt.below (below_drew _ _ eW2) r1.lt r1) fun W2 eW2=>?_
 have dW2:=below_drew _ _ eW2
 have zW2:=size_drew _ _ eW2
 clear eW2
 have r1:=RowAt.below dW2 r1.lt r1
 refine hgs_take 0 (by rfl) Wn (by rfl) rfl (by decide) (by kernel_rfl) (by kernel_rfl) (by kernel_rfl) (fun _ _ _ h=>h) r1 (fun q hq=>y_move rfl rfl) ?_
 refine hgs_take 1 (by rfl) Wn (by rfl) rfl (by decide) (by kernel_rfl) (by kernel_rfl) (by kernel_rfl) (fun _ _ _ h=>h) r1 (fun q hq=>y_move rfl rfl) ?_
 refine hgs_takev 2 (by rfl) Wn rfl (by decide) (by kernel_rfl) (by kernel_rfl) (by kernel_rfl) (fun _ _ _ h=>h) r1 (v_nilc rfl rfl) ?_
 refine hgs_take 3 (by rfl) Wn (by rfl) rfl (by decide) (by kernel_rfl) (by kernel_rfl) (by kernel_rfl) (fun _ _ _ h=>h) r1 (fun q hq=>y_fld (off:=0) (by kernel_rfl) rfl rfl) ?_
 refine hgs_take 5 (by rfl) Wn (by rfl) rfl (by decide) (by kernel_rfl) (by kernel_rfl) (by kernel_rfl) (fun _ _ _ h=>h) r1 (fun q hq=>y_part hq (m:=64) (cB64_part _) (by rw [cB_size];omega) (by kernel_rfl) (by kernel_rfl) rfl rfl) ?_
 refine hgs_one 4 (by rfl) (by kernel_rfl) Wn ?_
 have rm:=n1.keep rm
 have rm:=RowAt.below dW2 rm.lt rm
 refine Za (y_part rm (m:=8) (cW8_part _) (by rw [cW_size];omega) (by kernel_rfl) (by kernel_rfl) rfl rfl) ?_
 refine hgs_next r1 ?_
 refine hgs_one 6 (by rfl) (by kernel_rfl) Wn ?_
 have rg:=n1.keep rg
 have rg:=RowAt.below dW2 rg.lt rg
 refine Zc (mix_any _ _ _ rg) rfl rfl ?_
 rintro _ w3 ⟨rfl,hw3⟩
 have zw3:=hw3.size
 have r1:=RowAt.below hw3 r1.lt r1
 refine hgs_next r1 ?_
 refine hgs_takev 7 (by rfl) Wn rfl (by decide) (by kernel_rfl) (by kernel_rfl) (by kernel_rfl) (fun _ _ _ h=>h) r1 (v_nilc rfl rfl) ?_
 refine hgs_take 8 (by rfl) Wn (by rfl) rfl (by decide) (by kernel_rfl) (by kernel_rfl) (by kernel_rfl) (fun _ _ _ h=>h) r1 (fun q hq=>y_fld (off:=0) (by kernel_rfl) rfl rfl) ?_
 refine hgs_one 9 (by rfl) (by kernel_rfl) Wn ?_
 have rm:=RowAt.below hw3 rm.lt rm
 have qw4:=rm
 refine lg_stw Wn rm rfl rfl rfl (hs8 _) (cW_one _ _) (by rw [cW_size,cW_size]) rfl fun w4 sw4=>?_
 have rm:=sw4.row
 have zw4:=sw4.size
 have r1:=sw4.keep r1 (by omega)
 refine hgs_next r1 ?_
 refine hgs_done (by kernel_rfl) ?_
 have bu:=(bu.grow n1.below).grow dW2
 have bu:=(bu.grow hw3).set sw4 (by omega)
 exact eg_end_none rfl ⟨_,rfl,rfl,rm,bu⟩
theorem concat_sl {A1 A2:Option Addr} {n1 n2 c1 c2 B b:Nat} {x1 x2:List Int} (B':Nat) (w:World) (h1:Oct w B A1 n1 x1) (h2:Oct w B' A2 n2 x2) {tr:TypeId} (r:RowAt w b tr #[.slice A1 n1 c1,.slice A2 n2 c2]) (hB:B≤w.heap.size∧B'≤w.heap.size) (hn:n1+n2≤70368744177664) :
  Calls Tryz.prog 192 #[.slice (some ⟨b,0,none⟩) 2 2] w fun e w'=>∃ v,e=.returned v∧SlR w (x1++x2) v w':=by
 refine (concat_two b n1 n2 c1 c2 w.heap.size A1 A2 x1 x2 w (h1.more hB.1) (h2.more hB.2) (Nat.le_refl _) r.lt ?_ ?_ hn).mono ?_
 ·rw [cell_of_row w b 0 _ tr _ r];rfl
 ·rw [cell_of_row w b 1 _ tr _ r];rfl
 rintro e w' ⟨v,rfl,ho,hb,hs⟩
 have hy:∀ y∈x1++x2,0≤y∧y≤255:=by
  intro y hy
  rcases List.mem_append.1 hy with h | h
  ·exact h1.2.1 y h
  exact h2.2.1 y h
 obtain ⟨A,c,rfl,h3,_,hO⟩:=own_sl ho hy
 exact ⟨_,rfl,A,_,c,rfl,h3,hO,hb⟩
theorem cut_any (h:Nat→BitVec 32) (A A2:Option Addr) (m c m2 c2 bm:Nat) (xs ys:List Int) (w:World) {tg tm:TypeId} (rg:RowAt w 2 tg (cW 64 num)) (rm:RowAt w bm tm (cW 8 h)) (h0:bm≠2)
  (o1:Oct w w.heap.size A m xs) (o2:Oct w w.heap.size A2 m2 ys) (h64:m<64) (hnc:m2≤c2) :
  Calls Tryz.prog 189 #[.slice A m c,.slice A2 m2 c2,.func (.func 190) #[pv bm 0] #[]] w fun e w'=>∃ v,e=.returned v∧∃ A' m' c',v=.slice A' m' c'∧Oct w' w'.heap.size A' m' (rest (xs++ys))∧RowAt w' bm tm (cW 8 (hOf h (xs++ys)))∧But w w' bm:=by
 refine Qf (n:=31) Tryz.func189 rfl Tryz.ntmps189 (by simp) ?_
 show CG _ _ _ [(0,.slice A m c),(1,.slice A2 m2 c2),(2,.func (.func 190) #[pv bm 0] #[])] _ _
 have bu:But w w bm:=But.refl bm
 have hm:=rm.lt
 have hl1:=o1.1
 have hl2:=o2.1
 have hall:(xs++ys).length=m+m2:=by rw [List.length_append,hl1,hl2]
 refine ZrA ?_
 refine Zn [0,1,2,6] ?_
 refine Zr ?_
 refine lg_allocw Wn rfl hzo rfl (by decide) fun b1 w1 n1=>?_
 have r1:=n1.row
 have k1:=n1.blk
 have z1:=n1.size
 refine Zn [0,1,2,6,7] ?_
 refine Zr ?_
 refine Za (y_arr_all (N:=64) (by kernel_rfl) hsb (by decide) rfl rfl) ?_
 refine ZM ?_
 have o1:=o1.below (n1.below.mono (by omega))
 refine lg_copy r1 o1 (by omega) Wn rfl rfl rfl rfl (by decide) fun w2 sw2=>?_
 have r1:=sw2.row
 have zw2:=sw2.size
 refine Zan (yv (show iv (min m 64)=iv m by rw [show min m 64=m by omega]) (y_assign rfl rfl)) [1,2,6,7,8] ?_
 refine Qd ?_
 refine Qj ?_
 have rm:=n1.keep rm
 have rm:=sw2.keep rm (by omega)
 have o2:=(o2.below (n1.below.mono (by omega))).below (sw2.below _ (by omega))
 have bu:=(bu.grow n1.below).set sw2 (by omega)
 have g1:2<b1:=by have:=rg.lt;omega
 have rg:=n1.keep rg
 have rg:=sw2.keep rg (by omega)
 have rms:RowAt w2 bm tm (cW 8 (fold h (xs++ys) 0)):=rm
 have o2s:Oct w2 w.heap.size A2 m2 ((xs++ys).drop (64*0+m)):=by rw [show 64*0+m=xs.length by omega,List.drop_left];exact o2
 have emin:min m 64=m:=by omega
 have etk:xs.take 64=xs:=List.take_of_length_le (by omega)
 rw [etk] at r1
 have hFs:rd (putF (fun _=>0) 0 xs) m=((xs++ys).drop (64*0)).take m:=by rw [Nat.mul_zero,List.drop_zero,←hl1,putF_rd o1.2.1,List.take_left]
 refine Qr (fun t a v=>∃ (F:Nat→BitVec 8) (k:Nat) (A3:Option Addr) (m3:Nat) (c3:Nat),Holds 31 [(7,pv b1 0),(1,.slice A3 m3 c3),(8,iv k),(2,.func (.func 190) #[pv bm 0] #[])] a∧RowAt v 2 tg (cW 64 num)∧RowAt v bm tm (cW 8 (fold h (xs++ys) t))∧RowAt v b1 154 (cB 64 F)∧Oct v w.heap.size A3 m3 ((xs++ys).drop (64*t+k))∧k≤63∧m3≤c3∧64*t+k+m3=m+m2∧rd F k=((xs++ys).drop (64*t)).take k∧But w v bm) ((m+m2) / 64) (fun a ha=>⟨_,m,_,_,_,ha.keep (fk rfl (fk rfl (fk rfl (fk rfl fn)))),rg,rms,r1,o2s,by omega,hnc,by omega,hFs,bu⟩) ?_
 rintro t a v ht ⟨F,k,A3,m3,c3,ha,rg,rm,r1,o3,hk,hc3,hs,hF,bu⟩
 refine cg_at ha ?_
 clear ha a
 have zv:=bu.size
 refine Qd ?_
 refine ZrM ?_
 refine Za (y_len (el:=5)) ?_
 refine ZM ?_
 refine Za (yi_sub rfl rfl rfl (by omega) (by omega)) ?_
 refine Zan yi_geq [7,1,8,2,12,13,14,15,16] ?_
 refine cg_if rfl (fun hc16=>?_) (fun hc16=>?_)
 ·have hle:64-k≤m3:=by omega
  refine Zki [7,1,8,2,12,13,14,15,16] ?_
  refine Qj ?_
  refine ZrM ?_
  refine ZM ?_
  refine Za (y_arr_l (N:=64) k (by rfl) (by kernel_rfl) hsb (by omega) rfl rfl rfl) ?_
  refine ZM ?_
  refine lg_copy r1 o3 (by omega) Wn rfl rfl rfl rfl (by decide) fun w3 sw3=>?_
  have r1:=sw3.row
  have zw3:=sw3.size
  refine Za (y_cut_l (64-k) (by omega) hle rfl rfl rfl) ?_
  refine ZAn [7,8,2,12,13,14,15,16,17,18,19,20,21,22,1] ?_
  refine ZrM ?_
  refine Za (yv (show (Value.agg (cB 64 (putF F k (((xs++ys).drop (64*t+k)).take (64-k)))))=.agg (cB 64 (blkS (xs++ys) t)) by rw [cB_ext (putF_blk (by omega) hF (by omega) rfl)]) (y_part r1 (m:=64) (cB64_part _) (by rw [cB_size];omega) (by kernel_rfl) (by kernel_rfl) rfl rfl)) ?_
  have rm:=sw3.keep rm (by omega)
  have rg:=sw3.keep rg (by omega)
  have qm:=rm
  refine lg_callv Wn (f:=190) (fs:=[pv bm 0]) (us:=[]) (vs:=[.agg (cB 64 (blkS (xs++ys) t))]) (mixer_any _ _ _ _ rg rm h0) (by kernel_rfl) rfl rfl rfl rfl (by decide) ?_
  rintro _ w4 ⟨rfl,rm,hw4⟩
  have zw4:=hw4.size
  refine Zn [7,8,2,12,13,14,15,16,17,18,19,20,21,22,1,23,24] ?_
  refine Qe ?_
  refine ZA ?_
  refine Qk ?_
  refine Qi ?_
  have o3:=((o3.below (sw3.below _ (by omega))).but2 qm cW_no (by omega) hw4).cutA (64-k) c3 hc3 hle
  rw [List.drop_drop,show 64*t+k+(64-k)=64*(t+1)+0 by omega] at o3
  have rg:=hw4.keep rg (by omega)
  have r1:=hw4.keep r1 (by omega)
  have bu:=(bu.set sw3 (by omega)).but hw4
  exact fun a ha=>(show t<((m+m2) / 64)∧_ from ⟨(by omega),_,0,_,_,_,ha.keep (fk rfl (fk rfl (fk rfl (fk rfl fn)))),rg,(show RowAt _ _ _ (cW 8 (fold h (xs++ys) (t+1))) from rm),r1,o3,by omega,by omega,by omega,by simp [rd],bu⟩)
 have hN:(m+m2) / 64=t:=by omega
 have of:=oct_row r1 (k:=k) (by omega)
 have hb1:=r1.lt
 refine cg_exit ?_
 refine Qh ?_
 refine Qh ?_
 refine Ql ?_
 refine Nx [7,1,8] ?_
 refine ZrM ?_
 refine Za (y_arr_h (N:=64) k (by rfl) (by kernel_rfl) hsb (by decide) (by omega) rfl rfl rfl) ?_
 refine ZM ?_
 refine lg_bslice (el:=23) (by kernel_rfl) (z:=.slice none 0 0) (by kernel_rfl) (by decide) (by decide) rfl rfl (cs:=#[.slice (some ⟨b1,0,none⟩) k 64,.slice A3 m3 c3]) (by kernel_rfl) rfl rfl (by decide) fun b5 w5 n5=>?_
 have r5:=n5.row
 have k5:=n5.blk
 have z5:=n5.size
 have of:=of.below (n5.below.mono (by omega))
 have o3:=o3.below (n5.below.mono (by omega))
 refine Zc (concat_sl _ _ of o3 r5 (by omega) (by omega)) rfl rfl ?_
 rintro _ w6 ⟨A6,m6,c6,rfl,hc6,o6,hw6⟩
 have zw6:=hw6.size
 refine ZAnr [6] ?_
 have rm:=n5.keep rm
 have rm:=RowAt.below hw6 rm.lt rm
 have bu:=(bu.grow n5.below).grow hw6
 have er:rd F k++(xs++ys).drop (64*t+k)=rest (xs++ys):=by
  unfold rest
  rw [hall,hN,hF,←List.drop_drop,List.take_append_drop]
 have eh:fold h (xs++ys) t=hOf h (xs++ys):=by unfold hOf;rw [hall,hN]
 rw [er] at o6
 rw [eh] at rm
 exact Qa rfl rfl ⟨_,rfl,_,_,_,rfl,o6.more (by omega),rm,bu⟩
/- ShProg:
  Contracts of the sum's exported functions.
-/
set_option maxRecDepth 20000
theorem write_any (s:S) (A A2:Option Addr) (m c m2 c2:Nat) (ys:List Int) (w:World) {tg:TypeId} (rg:RowAt w 2 tg (cW 64 num)) (o1:Oct w w.heap.size A m s.b) (o2:Oct w w.heap.size A2 m2 ys) (hnc:m2≤c2) (hm2:m2≤281474976710656):Calls Tryz.prog 165 #[.agg (cS s.h (.slice A m c) s.n),.slice A2 m2 c2] w fun e w'=>∃ v,e=.returned v∧StR w (s.wr ys) v w':=by
 refine Qf (n:=33) Tryz.func165 rfl Tryz.ntmps165 (by simp) ?_
 show CG _ _ _ [(0,.agg (cS s.h (.slice A m c) s.n)),(1,.slice A2 m2 c2)] _ _
 have u:=Below.refl w.heap.size w
 have hl1:=o1.1
 have hl2:=o2.1
 have hb:=s.as_b
 have hn:=s.as_n
 have h0:=rg.lt
 refine Zr ?_
 refine lg_boxw Wn rfl rfl (hsS _ _ _) rfl (by decide) fun b1 w1 n1=>?_
 have r1:=n1.row
 have k1:=n1.blk
 have z1:=n1.size
 refine lg_allocw Wn rfl hzS rfl (by decide) fun b2 w2 n2=>?_
 have r2:=n2.row
 have k2:=n2.blk
 have z2:=n2.size
 refine Zn [1,2,4] ?_
 refine Zr ?_
 have r1:=n2.keep r1
 refine Za (y_part r1 (m:=10) (cS_all _ _ _) (by show _≤10;omega) (by kernel_rfl) (by kernel_rfl) rfl rfl) ?_
 have o1:=(o1.below (n1.below.mono (by omega))).below (n2.below.mono (by omega))
 refine Zc (sound_any s _ _ _ _ (o1.more (by omega))) rfl rfl ?_
 rintro _ w3 ⟨A3,m3,c3,rfl,o3,hw3⟩
 have zw3:=hw3.size
 have r1:=RowAt.below hw3 r1.lt r1
 have qw4:=r1
 refine lg_stw Wn r1 rfl rfl rfl (hsS _ _ _) (cS_one _ _ _ _ _) rfl rfl fun w4 sw4=>?_
 have r1:=sw4.row
 have zw4:=sw4.size
 refine Zn [1,2,4] ?_
 refine Qd ?_
 refine Zr ?_
 refine Za (y_fld (off:=9)) ?_
 refine Za (Qo r1 (cS_9 _ _ _) (by kernel_rfl) rfl rfl) ?_
 refine ZM ?_
 refine Za (y_len (el:=5)) ?_
 refine Za (yi_add rfl rfl rfl (by omega) (by omega)) ?_
 refine Zan yi_gtr [1,2,4,14] ?_
 refine cg_if rfl (fun hc14=>?_) (fun hc14=>?_)
 ·have ew:s.wr ys=S.new:=if_pos (by omega)
  refine Zr ?_
  refine Zc (new_any _) rfl rfl ?_
  rintro _ w5 ⟨A5,m5,c5,rfl,o5,hw5⟩
  have zw5:=hw5.size
  have r2:=RowAt.below hw3 r2.lt r2
  have r2:=sw4.keep r2 (by omega)
  have r2:=RowAt.below hw5 r2.lt r2
  have qw6:=r2
  refine lg_stw Wn r2 rfl rfl rfl (hsS _ _ _) (cS_one _ _ _ _ _) rfl rfl fun w6 sw6=>?_
  have r2:=sw6.row
  have zw6:=sw6.size
  refine Znr [1,2,4] ?_
  refine Qc ?_
  have u:=Un (Un (Un u n1.below) n2.below) hw3
  have u:=u.trans (sw4.below _ (by omega))
  have u:=Un u hw5
  have u:=u.trans (sw6.below _ (by omega))
  have o5:=o5.set qw6 cS_no sw6
  exact eg_ret_agg rfl rfl r2 (by kernel_rfl) (hsS _ _ _) ⟨_,rfl,(by rw [ew];exact ⟨_,_,_,(by first | rfl | rw [hl2]),o5.more (by omega),u⟩)⟩
 have ew:s.wr ys=⟨hOf s.as.h (s.as.b++ys),rest (s.as.b++ys),s.as.n+ys.length⟩:=if_neg (by omega)
 refine Zki [1,2,4] ?_
 refine Zr ?_
 refine Za (y_fld (off:=0)) ?_
 refine Za (y_part r1 (m:=8) (cS_part _ _ _) (by show _≤10;omega) (by kernel_rfl) (by kernel_rfl) rfl rfl) ?_
 refine Za (y_build rfl rfl (bM _)) ?_
 refine lg_allocw Wn rfl hzM rfl (by decide) fun b7 w7 n7=>?_
 have r7:=n7.row
 have k7:=n7.blk
 have z7:=n7.size
 have qw8:=r7
 refine lg_stw Wn r7 rfl rfl rfl (hsM _) (cW_one _ _) (by rw [cW_size,cW_size]) rfl fun w8 sw8=>?_
 have r7:=sw8.row
 have zw8:=sw8.size
 refine Zn [1,2,4,5] ?_
 refine Zr ?_
 refine Za (y_fld (off:=8)) ?_
 have r1:=n7.keep r1
 have r1:=sw8.keep r1 (by omega)
 refine Za (Qo r1 (cS_8 _ _ _) (by kernel_rfl) rfl rfl) ?_
 refine ZM ?_
 refine Za (y_mkf (xs:=[.tmp 5]) (ys:=[])) ?_
 have o3:=((o3.set qw4 cS_no sw4).below (n7.below.mono (by omega))).set qw8 cW_no sw8
 have o2:=(o2.below (n1.below.mono (by omega))).below (n2.below.mono (by omega))
 have o2:=(o2.below (hw3.mono (by omega))).set qw4 cS_no sw4
 have o2:=(o2.below (n7.below.mono (by omega))).set qw8 cW_no sw8
 have rg:=n1.keep rg
 have rg:=n2.keep rg
 have rg:=RowAt.below hw3 rg.lt rg
 have rg:=sw4.keep rg (by omega)
 have rg:=n7.keep rg
 have rg:=sw8.keep rg (by omega)
 have qm:=r7
 refine Zc (cut_any _ _ _ _ _ _ _ _ _ _ _ rg r7 (by omega) (o3.more (by omega)) (o2.more (by omega)) (by have:=o3.1;omega) hnc) rfl rfl ?_
 rintro _ w9 ⟨A9,m9,c9,rfl,o9,r7,hw9⟩
 have zw9:=hw9.size
 refine ZAn [1,2,4,5,6] ?_
 refine Zr ?_
 refine Za (y_fld (off:=0)) ?_
 refine Za (y_part r7 (m:=8) (cW8_part _) (by rw [cW_size];omega) (by kernel_rfl) (by kernel_rfl) rfl rfl) ?_
 refine ZM ?_
 refine Za (y_fld (off:=9)) ?_
 have r1:=hw9.keep r1 (by omega)
 refine Za (Qo r1 (cS_9 _ _ _) (by kernel_rfl) rfl rfl) ?_
 refine ZM ?_
 refine Za (y_len (el:=5)) ?_
 refine Za (yi_add rfl rfl rfl (by omega) (by omega)) ?_
 refine Za (y_build rfl rfl (bS3 _ () _)) ?_
 have r2:=RowAt.below hw3 r2.lt r2
 have r2:=sw4.keep r2 (by omega)
 have r2:=n7.keep r2
 have r2:=sw8.keep r2 (by omega)
 have r2:=hw9.keep r2 (by omega)
 have qw10:=r2
 refine lg_stw Wn r2 rfl rfl rfl (hsS _ _ _) (cS_one _ _ _ _ _) rfl rfl fun w10 sw10=>?_
 have r2:=sw10.row
 have zw10:=sw10.size
 refine Znr [4] ?_
 have u:=Un (Un (Un u n1.below) n2.below) hw3
 have u:=u.trans (sw4.below _ (by omega))
 have u:=Un u n7.below
 have u:=((u.trans (sw8.below _ (by omega))).trans (hw9.below _ (by omega) (by omega))).trans (sw10.below _ (by omega))
 have o9:=o9.set qw10 cS_no sw10
 exact eg_ret_agg rfl rfl r2 (by kernel_rfl) (hsS _ _ _) ⟨_,rfl,(by rw [ew];exact ⟨_,_,_,(by first | rfl | rw [hl2]),o9.more (by omega),u⟩)⟩
theorem be4_rng (x:BitVec 32):∀ z∈be4 x,0≤z∧z≤255:=by
 intro z hz
 simp only [be4,List.mem_cons,List.not_mem_nil,or_false] at hz
 rcases hz with rfl | rfl | rfl | rfl<;>exact vb_range _
theorem outF_len (h:Nat→BitVec 32):∀ i,(outF h i).length=4*i
 | 0=>rfl
 | i+1=>by
  show (outF h i++be4 (h i)).length=_
  rw [List.length_append,outF_len h i]
  show 4*i+4=_
  omega
theorem outF_rng (h:Nat→BitVec 32):∀ i,∀ z∈outF h i,0≤z∧z≤255
 | 0=>by intro z hz;cases hz
 | i+1=>by
  intro z hz
  rcases List.mem_append.1 (show z∈outF h i++be4 (h i) from hz) with h1 | h1
  ·exact outF_rng h i z h1
  exact be4_rng _ z h1
def padW (n:Int) (k:Nat):Nat→Nat→BitVec 8
 | 0=>upd (fun _=>0) (0+0) 128#8
 | i+1=>upd (padW n k i) (0+(k-1-i)) (toB (n*8 / 2 ^ (8*(i:Int)).toNat))
theorem padW_at (n:Int) (k:Nat):∀ t,t≤8→9≤k→∀ j,j<k→padW n k t j=if j=0 then 128#8 else if k-1-j<t then toB (n*8 / 2 ^ (8*(k-1-j))) else 0
 | 0,_,hk,j,hj=>by
  by_cases e:j=0
  ·subst e;simp [padW,upd]
  simp [padW,upd,e]
 | t+1,ht,hk,j,hj=>by
  show (if j=0+(k-1-t) then _ else padW n k t j)=_
  by_cases e:j=0+(k-1-t)
  ·rw [if_pos e,if_neg (by omega),if_pos (by omega),show (8*(t:Int)).toNat=8*(k-1-j) by omega]
  rw [if_neg e,padW_at n k t (by omega) hk j hj]
  by_cases e0:j=0
  ·simp [e0]
  rw [if_neg e0,if_neg e0]
  by_cases e1:k-1-j<t
  ·rw [if_pos e1,if_pos (by omega)]
  rw [if_neg e1,if_neg (by omega)]
theorem be8_len (n:Int):∀ i,(be8 n i).length=i
 | 0=>rfl
 | i+1=>by
  show (be8 n i++[_]).length=_
  rw [List.length_append,be8_len n i]
  rfl
theorem be8_at (n:Int):∀ t i,i<t→(be8 n t)[i]?=some (n / 2 ^ (8*(7-i)) % 256)
 | 0,i,h=>by omega
 | t+1,i,h=>by
  show (be8 n t++[n / 2 ^ (8*(7-t)) % 256])[i]?=_
  by_cases e:i<t
  ·rw [List.getElem?_append_left (by rw [be8_len];exact e),be8_at n t i e]
  have e2:i=t:=by omega
  subst e2
  rw [List.getElem?_append_right (by rw [be8_len];omega),be8_len,Nat.sub_self]
  rfl
theorem vb_toB_mod (z:Int):vb (toB z)=z % 256:=by
 unfold vb toB
 rw [BitVec.toNat_ofInt]
 omega
theorem padL_ok {n:Int} (h:0≤n∧n≤1125899906842624):padL n=128::(List.replicate (zeroN n) 0++be8 (n*8) 8):=if_pos h
theorem padL_no {n:Int} (h:¬(0≤n∧n≤1125899906842624)):padL n=[]:=if_neg h
theorem zeroN_lt (n:Int):zeroN n<64:=by unfold zeroN;omega
theorem padL_len {n:Int} (h:0≤n∧n≤1125899906842624):(padL n).length=9+zeroN n:=by
 rw [padL_ok h,List.length_cons,List.length_append,List.length_replicate,be8_len]
 omega
theorem padL_le (n:Int):(padL n).length≤72:=by
 by_cases h:0≤n∧n≤1125899906842624
 ·have:=zeroN_lt n
  rw [padL_len h]
  omega
 rw [padL_no h]
 exact Nat.zero_le _
theorem padW_end {n:Int} (h:0≤n∧n≤1125899906842624):rd (padW n (9+zeroN n) 8) (9+zeroN n)=padL n:=by
 refine List.ext_getElem? fun j=>?_
 by_cases hj:j<9+zeroN n
 ·have h1:(rd (padW n (9+zeroN n) 8) (9+zeroN n))[j]?=some (vb (padW n (9+zeroN n) 8 j)):=by simp [rd,hj]
  rw [h1,padW_at n _ 8 (by omega) (by omega) j hj,padL_ok h]
  by_cases e:j=0
  ·subst e
   rfl
  rw [if_neg e]
  obtain ⟨i,rfl⟩:∃ i,j=i+1:=⟨j-1,by omega⟩
  rw [List.getElem?_cons_succ]
  by_cases e1:i<zeroN n
  ·rw [if_neg (by omega),List.getElem?_append_left (by rw [List.length_replicate];exact e1),List.getElem?_replicate,if_pos e1]
   rfl
  rw [if_pos (by omega),List.getElem?_append_right (by rw [List.length_replicate];omega),List.length_replicate,be8_at _ _ _ (by omega),vb_toB_mod]
  rw [show 8*(9+zeroN n-1-(i+1))=8*(7-(i-zeroN n)) by omega]
 rw [List.getElem?_eq_none (by rw [rd_len];omega),List.getElem?_eq_none (by rw [padL_len h];omega)]
theorem padL_rng (n:Int):∀ z∈padL n,0≤z∧z≤255:=by
 by_cases h:0≤n∧n≤1125899906842624
 ·rw [←padW_end h]
  intro z hz
  obtain ⟨i,_,rfl⟩:=List.mem_map.1 hz
  exact vb_range _
 rw [padL_no h]
 intro z hz
 cases hz
theorem pad_any (n:Int) (w:World):Calls Tryz.prog 188 #[nv n] w fun e w'=>∃ v,e=.returned v∧SlR w (padL n) v w':=by
 by_cases hk:0≤n∧n≤1125899906842624
 ·refine Qf (n:=41) Tryz.func188 rfl Tryz.ntmps188 (by simp) ?_
  show CG _ _ _ [(0,nv n)] _ _
  have u:=Below.refl w.heap.size w
  have hz:=zeroN_lt n
  refine ZrA ?_
  refine Zn [0,2] ?_
  refine Qd ?_
  refine ZrM ?_
  refine Za (yb (dT hk) (Qp (counted_any _ _))) ?_
  refine Zan y_bnot [0,2,9] ?_
  refine Zcf [0,2] ?_
  refine ZrM ?_
  refine Za (yi_add rfl rfl rfl (by omega) (by omega)) ?_
  refine Za (yi_add rfl rfl rfl (by omega) (by omega)) ?_
  refine Za (yi_rem rfl rfl rfl (by omega) (by omega)) ?_
  refine ZAn [0,2,3] ?_
  refine ZrM ?_
  refine Za (yi_sub rfl rfl rfl (by omega) (by omega)) ?_
  refine Za (yi_rem rfl rfl rfl (by omega) (by omega)) ?_
  refine ZAn [0,2,4] ?_
  refine ZrM ?_
  refine Za (yi_add rfl rfl rfl (by omega) (by omega)) ?_
  refine Za (yi_add rfl rfl rfl (by omega) (by omega)) ?_
  refine lg_mk (9+zeroN n) Wn (by unfold zeroN;omega) (by have:=zeroN_lt n;omega) rfl rfl rfl rfl (by decide) fun b1 w1 n1=>?_
  have r1:=n1.row
  have k1:=n1.blk
  have z1:=n1.size
  refine ZAn [0,2,5] ?_
  refine ZrM ?_
  refine Za (y_ixo (i:=0) (by rfl) (by omega) rfl rfl rfl) ?_
  refine lg_st1 Wn r1 rfl rfl (u:=ov 128#8) (by kernel_rfl) (by kernel_rfl) rfl (by rw [cB_size];omega) cB_set rfl fun w2 sw2=>?_
  have r1:=sw2.row
  have zw2:=sw2.size
  refine Zn [0,2,5] ?_
  refine Qd ?_
  refine ZrM ?_
  refine Zn [0,2,5,23] ?_
  refine Qj ?_
  have u:=Un u n1.below
  have u:=u.trans (sw2.below _ (by omega))
  refine Qr (fun i a v=>Holds 41 [(0,nv n),(5,.slice (some ⟨b1,0,none⟩) (9+zeroN n) (9+zeroN n)),(23,iv i)] a∧RowAt v b1 5 (cB (9+zeroN n) (padW n (9+zeroN n) i))∧Below w.heap.size w v) 8 (fun a ha=>⟨ha.keep (fk rfl (fk rfl (fk rfl fn))),r1,u⟩) ?_
  rintro i a v ht ⟨ha,rp,u⟩
  refine cg_at ha ?_
  clear ha a
  have zv:=u.size
  refine Zr ?_
  refine Zan yi_lss [0,5,23,24] ?_
  refine Qd ?_
  refine cg_if rfl (fun hc24=>?_) (fun hc24=>?_)
  ·refine Zki [0,5,23,24] ?_
   refine Qd ?_
   refine Qj ?_
   refine ZrM ?_
   refine ZAn [0,5,23,24,25,6] ?_
   refine Qe ?_
   refine ZM ?_
   refine ZM ?_
   refine Za (y_len (el:=5)) ?_
   refine Za (yi_sub rfl rfl rfl (by omega) (by omega)) ?_
   refine ZM ?_
   refine Za (yi_sub rfl rfl rfl (by omega) (by omega)) ?_
   refine ZM ?_
   refine Za (yi_mul rfl rfl rfl (by omega) (by omega)) ?_
   refine ZM ?_
   refine Za (yi_mul rfl rfl rfl (by omega) (by omega)) ?_
   refine Za (yi_shr rfl rfl rfl (by omega) (by omega)) ?_
   refine Za y_to8 ?_
   refine Za (y_ixo (i:=9+zeroN n-1-i) (by omega) (by omega) rfl rfl rfl) ?_
   refine lg_st1 Wn rp rfl rfl rfl (by kernel_rfl) rfl (by rw [cB_size];omega) cB_set rfl fun w3 sw3=>?_
   have rp:=sw3.row
   have zw3:=sw3.size
   refine Qk ?_
   refine Qi ?_
   refine Nx [0,5,23,24,25,6,26,27,28,29,30,31,32,33,34,35,36,37,38] ?_
   refine Qe ?_
   refine Za (yi_add rfl rfl rfl (by omega) (by omega)) ?_
   refine ZM ?_
   refine Qk ?_
   have u:=u.trans (sw3.below _ (by omega))
   exact fun a ha=>(show i<8∧_ from ⟨(by omega),ha.keep (fk rfl (fk rfl (fk rfl fn))),rp,u⟩)
  obtain rfl:i=8:=by omega
  refine cg_exit ?_
  refine Qh ?_
  refine Qh ?_
  refine Ql ?_
  refine Nx [5] ?_
  refine ZrM ?_
  refine ZAnr [2] ?_
  have o9:=oct_row rp (Nat.le_refl _)
  rw [padW_end hk] at o9
  exact Qa rfl rfl ⟨_,rfl,_,_,_,rfl,Nat.le_refl _,o9.more (by have:=rp.lt;omega),u⟩
 refine Qf (n:=41) Tryz.func188 rfl Tryz.ntmps188 (by simp) ?_
 show CG _ _ _ [(0,nv n)] _ _
 have u:=Below.refl w.heap.size w
 refine ZrA ?_
 refine Zn [0,2] ?_
 refine Qd ?_
 refine ZrM ?_
 refine Za (yb (dF hk) (Qp (counted_any _ _))) ?_
 refine Zan y_bnot [0,2,9] ?_
 refine cg_ct rfl ?_
 refine ZrA ?_
 refine Znr [0,2] ?_
 refine Qc ?_
 exact Qa rfl rfl ⟨_,rfl,none,0,0,rfl,Nat.le_refl _,(by rw [padL_no hk];exact Oct.nil _ _ _),u⟩
/- ShRefW:
  The document's Write.
-/
set_option maxRecDepth 20000
theorem blk_drop (xs:List Int) (t i:Nat):(xs.drop (64*t)).getD i 0=xs.getD (64*t+i) 0:=by
 simp only [List.getD,List.getElem?_drop]
theorem Oct.cellv {w:World} {B b off m t i:Nat} {xs:List Int} (h:Oct w B (some ⟨b,off,none⟩) m (xs.drop (64*t))) (hi:i<m):w.cell? ⟨b,off+i,none⟩=some (ov (blkS xs t i)):=by
 obtain ⟨b1,o1,e,_,hc⟩:=h.2.2 (by omega)
 injection e with e
 injection e with e1 e2
 subst e1 e2
 have hl:i<(xs.drop (64*t)).length:=by rw [h.1];exact hi
 rw [hc i _ (List.getElem?_eq_getElem hl)]
 have h1:(xs.drop (64*t)).getD i 0=(xs.drop (64*t))[i]:=by simp [List.getD,List.getElem?_eq_getElem hl]
 unfold blkS
 rw [←blk_drop,h1,ov,vb_toB (h.2.1 _ (List.getElem_mem hl))]
def bF (xs:List Int) (t:Nat):Nat→Nat→BitVec 8
 | 0=>fun _=>0
 | i+1=>upd (bF xs t i) i (blkS xs t i)
theorem bF_eq (xs:List Int) (t:Nat):∀ i,i<64→bF xs t 64 i=blkS xs t i:=by
 have key:∀ k i,bF xs t k i=if i<k then blkS xs t i else 0:=by
  intro k
  induction k with
  | zero=>intro i;simp [bF]
  | succ k ih =>
   intro i
   simp only [bF,upd,ih]
   by_cases e:i=k
   ·subst e;simp
   by_cases l:i<k
   ·simp [e,l,show i<k+1 by omega]
   simp [e,l,show ¬i<k+1 by omega]
 intro i hi
 rw [key,if_pos hi]
theorem y_lenown {E:Env} {o:Oper} {w:World} {x:Operand} {base k:Nat} {u:Value} {l:List Value} (h:w.ownsRow base 5 1 u k l) (ho:o.op=.call { callee:=.builtin .len,args:=#[x],argTypes:=#[23] }) (hx:val E x=some u):Yields Tryz.prog E o w (iv k):=by
 rcases h.2 with ⟨rfl,e⟩ | ⟨g,cap,cur,rfl,_⟩
 ·have hk:k=0:=by
   have:=h.1
   simp_all
  subst hk
  exact y_len (el:=5) (by kernel_rfl) ho hx
 exact y_len (el:=5) (by kernel_rfl) ho hx
theorem own_lit {w:World} {base b k:Nat} {cs:Array Value} {xs:List Int} (r:RowAt w b 5 cs) (hb:base≤b) (hk:k=xs.length) (hc:cs.toList=xs.map (Value.int .u8)) (hl:k≤maxLen):w.ownsRow base 5 1 (.slice (some ⟨b,0,none⟩) k k) xs.length (xs.map (Value.int .u8)):=by
 subst hk
 have hs:cs.size=xs.length:=by rw [←Array.length_toList,hc,List.length_map]
 refine ⟨by simp,.inr ⟨b,xs.length,cs,rfl,hb,r,Nat.le_refl _,hl,by omega,?_⟩⟩
 rw [hc]
 simp only [Nat.mul_one]
 first
 | exact List.take_of_length_le (by rw [List.length_map];exact Nat.le_refl _)
 | exact (List.take_of_length_le (by rw [List.length_map];exact Nat.le_refl _)).symm
theorem own_nil (w:World):w.ownsRow w.heap.size 5 1 (.slice none 0 0) ([]:List Int).length (([]:List Int).map (Value.int .u8)):=⟨rfl,.inl ⟨rfl,rfl⟩⟩
theorem and255 (x:BitVec 32):(x &&& 255#32).setWidth 8=x.setWidth 8:=by
 apply BitVec.eq_of_toNat_eq
 rw [BitVec.toNat_setWidth,BitVec.toNat_setWidth,BitVec.toNat_and]
 show (x.toNat &&& 255) % 2 ^ 8=_
 rw [show (255:Nat)=2 ^ 8-1 from rfl,Nat.and_two_pow_sub_one_eq_mod,Nat.mod_mod]
theorem cS_w (h:Nat→BitVec 32) (s:Value) (k:Int) {j:Nat} (hj:j<8):(cS h s k)[j]?=some (wv (h j)):=by
 match j,hj with
 | 0,_ | 1,_ | 2,_ | 3,_ | 4,_ | 5,_ | 6,_ | 7,_=>rfl
theorem y_tou {E:Env} {o:Oper} {w:World} {x:Operand} {m:Int} (h0:0≤m) (h1:m<9223372036854775808) (ho:o.op=.convert 3 147 x) (hx:val E x=some (nv m)):Yields Tryz.prog E o w (.int .u64 m):=by
 have h:=y_conv_u (w:=w) (P:=Tryz.prog) (t:=3) (t':=147) (k:=.u64) (ds:=.int .i64) (by kernel_rfl) (by kernel_rfl) ho hx
 have e:IntKind.u64.wrap m=m:=by
  unfold IntKind.wrap
  simp [IntKind.bits,IntKind.signed]
  omega
 rw [e] at h
 exact h
theorem rwrite_any (s:S) (A A2:Option Addr) (m c m2 c2:Nat) (ys:List Int) (w:World) (o1:Oct w w.heap.size A m s.b) (o2:Oct w w.heap.size A2 m2 ys) (hm2:m2≤100000):Calls Tryz.prog 156 #[.agg (cS s.h (.slice A m c) s.n),.slice A2 m2 c2] w fun e w'=>∃ v,e=.returned v∧StR w (s.wr ys) v w':=by
 refine Qf (n:=55) Tryz.func156 rfl Tryz.ntmps156 (by simp) ?_
 show CG _ _ _ [(0,.agg (cS s.h (.slice A m c) s.n)),(1,.slice A2 m2 c2)] _ _
 have u:=Below.refl w.heap.size w
 have hl1:=o1.1
 have hl2:=o2.1
 have hb:=s.as_b
 have hn:=s.as_n
 refine Zr ?_
 refine lg_boxw Wn rfl rfl (hsR _ _ _) rfl (by decide) fun b1 w1 n1=>?_
 have r1:=n1.row
 have k1:=n1.blk
 have z1:=n1.size
 refine lg_allocw Wn rfl hzR rfl (by decide) fun b2 w2 n2=>?_
 have r2:=n2.row
 have k2:=n2.blk
 have z2:=n2.size
 refine Zn [1,2,4] ?_
 refine Zr ?_
 have r1:=n2.keep r1
 refine Za (y_part r1 (m:=10) (cS_all _ _ _) (by show _≤10;omega) (by kernel_rfl) (by kernel_rfl) rfl rfl) ?_
 have o1:=(o1.below (n1.below.mono (by omega))).below (n2.below.mono (by omega))
 refine Zc (ras_any s _ _ _ _ (o1.more (by omega))) rfl rfl ?_
 rintro _ w3 ⟨A3,m3,c3,rfl,o3,hw3⟩
 have zw3:=hw3.size
 refine lg_allocw Wn rfl hzR rfl (by decide) fun b4 w4 n4=>?_
 have r4:=n4.row
 have k4:=n4.blk
 have z4:=n4.size
 have qw5:=r4
 refine lg_stw Wn r4 rfl rfl rfl (hsR _ _ _) (cS_one _ _ _ _ _) rfl rfl fun w5 sw5=>?_
 have r4:=sw5.row
 have zw5:=sw5.size
 refine Zn [1,4,5] ?_
 refine Qd ?_
 refine Zr ?_
 refine Za (y_fld (off:=9)) ?_
 refine Za (Qo r4 (cS_9 _ _ _) (by kernel_rfl) rfl rfl) ?_
 refine ZM ?_
 refine Za (y_len (el:=5)) ?_
 refine Za (yi_add rfl rfl rfl (by omega) (by omega)) ?_
 refine Zan yi_gtr [1,4,5,16] ?_
 refine cg_if rfl (fun hc16=>?_) (fun hc16=>?_)
 ·have ew:s.wr ys=S.new:=if_pos (by omega)
  refine Zr ?_
  refine Zc (rnew_any _) rfl rfl ?_
  rintro _ w6 ⟨A6,m6,c6,rfl,o6,hw6⟩
  have zw6:=hw6.size
  have r2:=RowAt.below hw3 r2.lt r2
  have r2:=n4.keep r2
  have r2:=sw5.keep r2 (by omega)
  have r2:=RowAt.below hw6 r2.lt r2
  have qw7:=r2
  refine lg_stw Wn r2 rfl rfl rfl (hsR _ _ _) (cS_one _ _ _ _ _) rfl rfl fun w7 sw7=>?_
  have r2:=sw7.row
  have zw7:=sw7.size
  refine Znr [1,4,5] ?_
  refine Qc ?_
  have u:=Un (Un u n1.below) n2.below
  have u:=Un (Un u hw3) n4.below
  have u:=u.trans (sw5.below _ (by omega))
  have u:=Un u hw6
  have u:=u.trans (sw7.below _ (by omega))
  have o6:=o6.set qw7 cS_no sw7
  exact eg_ret_agg rfl rfl r2 (by kernel_rfl) (hsR _ _ _) ⟨_,rfl,(by rw [ew];exact ⟨_,_,_,(by first | rfl | rw [hl2]),o6.more (by omega),u⟩)⟩
 have ew:s.wr ys=⟨hOf s.as.h (s.as.b++ys),rest (s.as.b++ys),s.as.n+ys.length⟩:=if_neg (by omega)
 refine Zki [1,4,5] ?_
 refine Zr ?_
 refine lg_bs0 Wn rfl rfl (by decide) fun u8 w8 p8 hw8=>?_
 have zw8:=hw8.size
 refine Za (y_fld (off:=8)) ?_
 have r4:=RowAt.below hw8 r4.lt r4
 refine Za (Qo r4 (cS_8 _ _ _) (by kernel_rfl) rfl rfl) ?_
 have o3:=((o3.below (n4.below.mono (by omega))).set qw5 cS_no sw5).below (hw8.mono (by omega))
 refine lg_append p8 o3 (by have ho:=o3.1;simp only [List.length_nil];omega) (by omega) Wn rfl rfl rfl rfl rfl (by decide) fun u9 w9 p8 hw9=>?_
 have zw9:=hw9.size
 refine ZAn [1,4,5,6] ?_
 refine ZrM ?_
 refine ZM ?_
 have o2:=(o2.below (n1.below.mono (by omega))).below (n2.below.mono (by omega))
 have o2:=(o2.below (hw3.mono (by omega))).below (n4.below.mono (by omega))
 have o2:=((o2.set qw5 cS_no sw5).below (hw8.mono (by omega))).below (hw9.mono (by omega))
 refine lg_append p8 o2 (by have ho:=o2.1;simp only [List.nil_append];omega) (by omega) Wn rfl rfl rfl rfl rfl (by decide) fun u10 w10 p8 hw10=>?_
 have zw10:=hw10.size
 refine ZAn [1,4,5,6] ?_
 refine Qd ?_
 refine Qj ?_
 have u:=Un (Un u n1.below) n2.below
 have u:=Un (Un u hw3) n4.below
 have u:=u.trans (sw5.below _ (by omega))
 have u:=Un u hw8
 have u:=(u.trans (hw9.mono (by omega))).trans (hw10.mono (by omega))
 have r2:=RowAt.below hw3 r2.lt r2
 have r2:=n4.keep r2
 have r2:=sw5.keep r2 (by omega)
 have r2:=RowAt.below hw8 r2.lt r2
 have r2:=RowAt.below hw9 (by omega) r2
 have r2:=RowAt.below hw10 (by omega) r2
 have r4:=RowAt.below hw9 (by omega) r4
 have r4:=RowAt.below hw10 (by omega) r4
 have o3:=(o3.below (hw9.mono (by omega))).below (hw10.mono (by omega))
 have o2:=o2.below (hw10.mono (by omega))
 have ry:∀ y∈([]++s.as.b)++ys,0≤y∧y≤255:=by
  intro y hy
  rcases List.mem_append.1 hy with h | h
  ·exact o3.2.1 y h
  exact o2.2.1 y h
 obtain ⟨A9,c9,rfl,hc9,_,o9⟩:=own_sl p8 ry
 have hall:(s.as.b++ys).length=s.as.b.length+m2:=by rw [List.length_append,hl2]
 refine Qr (fun t a v=>∃ (Aq:Option Addr) (mq:Nat) (cq:Nat),Holds 55 [(1,.slice A2 m2 c2),(4,pv b2 0),(5,pv b4 0),(6,.slice Aq mq cq)] a∧RowAt v b2 135 (cS (fun _=>0) (.slice none 0 0) 0)∧RowAt v b4 135 (cS (fold s.as.h (s.as.b++ys) t) (.slice A3 m3 c3) s.as.n)∧Oct v w10.heap.size Aq mq ((s.as.b++ys).drop (64*t))∧w10.heap.size≤v.heap.size∧mq≤cq∧64*t+mq=(s.as.b++ys).length∧Below w.heap.size w v) ((s.as.b++ys).length / 64) (fun a ha=>⟨_,_,_,ha.keep (fk rfl (fk rfl (fk rfl (fk rfl fn)))),r2,r4,o9,Nat.le_refl _,hc9,by simp,u⟩) ?_
 rintro t a v ht ⟨Aq,mq,cq,ha,r4,r5,o3,hbx,hc3,hs,u⟩
 refine cg_at ha ?_
 clear ha a
 have zv:=u.size
 refine Qd ?_
 refine ZrM ?_
 refine Za (y_len (el:=5)) ?_
 refine Zan yi_geq [1,4,5,6,25,26,27] ?_
 refine cg_if rfl (fun hc27=>?_) (fun hc27=>?_)
 ·have h64:64≤mq:=by omega
  have l4:=r4.lt
  have l5:=r5.lt
  obtain ⟨bq,oq,rfl,hq,_⟩:=o3.2.2 (by omega)
  refine Zki [1,4,5,6,25,26,27] ?_
  refine Qj ?_
  refine Zr ?_
  refine Za (y_build rfl rfl bO) ?_
  refine lg_allocw Wn rfl hzo rfl (by decide) fun b11 w11 n11=>?_
  have r11:=n11.row
  have k11:=n11.blk
  have z11:=n11.size
  refine lg_stw Wn r11 rfl rfl rfl (hso _) (cB_one _ _) (by simp only [cB_size]) rfl fun w12 sw12=>?_
  have r11:=sw12.row
  have zw12:=sw12.size
  refine Zn [1,4,5,6,25,26,27,28,7] ?_
  refine Qd ?_
  refine ZrA ?_
  refine Zn [1,4,5,6,25,26,27,28,7,8] ?_
  refine Qj ?_
  have r4:=n11.keep r4
  have r4:=sw12.keep r4 (by omega)
  have r5:=n11.keep r5
  have r5:=sw12.keep r5 (by omega)
  have o3:=(o3.below (n11.below.mono (by omega))).below (sw12.below _ (by omega))
  have u:=Un u n11.below
  have u:=u.trans (sw12.below _ (by omega))
  have l7:=r11.lt
  refine Qr (fun i a v=>Holds 55 [(1,.slice A2 m2 c2),(4,pv b2 0),(5,pv b4 0),(6,.slice (some ⟨bq,oq,none⟩) mq cq),(7,pv b11 0),(8,iv i)] a∧RowAt v b2 135 (cS (fun _=>0) (.slice none 0 0) 0)∧RowAt v b4 135 (cS (fold s.as.h (s.as.b++ys) t) (.slice A3 m3 c3) s.as.n)∧Oct v w10.heap.size (some ⟨bq,oq,none⟩) mq ((s.as.b++ys).drop (64*t))∧w10.heap.size≤v.heap.size∧Below w.heap.size w v∧RowAt v b11 154 (cB 64 (bF (s.as.b++ys) t i))) 64 (fun a ha=>⟨ha.keep (fk rfl (fk rfl (fk rfl (fk rfl (fk rfl (fk rfl fn)))))),r4,r5,o3,by omega,u,r11⟩) ?_
  rintro i a v ht ⟨ha,r4,r5,o3,hbx,u,r7⟩
  refine cg_at ha ?_
  clear ha a
  have zv:=u.size
  refine Qd ?_
  refine ZrM ?_
  refine Zan yi_lss [1,4,5,6,7,8,29,30] ?_
  refine cg_if rfl (fun hc30=>?_) (fun hc30=>?_)
  ·refine Zki [1,4,5,6,7,8,29,30] ?_
   refine Qd ?_
   refine Qj ?_
   refine Qe ?_
   refine ZM ?_
   refine ZM ?_
   refine ZM ?_
   refine Za (y_ixo (i:=i) rfl (by omega) rfl rfl rfl) ?_
   refine Za (y_celld (o3.cellv (by omega)) (by kernel_rfl) rfl rfl) ?_
   refine Za (y_ixa (j:=i) huo hsb (by omega) rfl rfl rfl) ?_
   refine lg_st1 Wn r7 rfl rfl rfl (by kernel_rfl) rfl (by rw [cB_size];omega) cB_set rfl fun w13 sw13=>?_
   have r7:=sw13.row
   have zw13:=sw13.size
   refine Qk ?_
   refine Qi ?_
   refine Nx [1,4,5,6,7,8,29,30,33,34,35,36,37,38] ?_
   refine Qe ?_
   refine ZM ?_
   refine Za (yi_add rfl rfl rfl (by omega) (by omega)) ?_
   refine ZA ?_
   refine Qk ?_
   have r4:=sw13.keep r4 (by omega)
   have r5:=sw13.keep r5 (by omega)
   have o3:=o3.below (sw13.below _ (by omega))
   have u:=u.trans (sw13.below _ (by omega))
   exact fun a ha=>(show i<64∧_ from ⟨(by omega),ha.keep (fk rfl (fk rfl (fk rfl (fk rfl (fk rfl (fk rfl fn)))))),r4,r5,o3,by omega,u,r7⟩)
  obtain rfl:i=64:=by omega
  rw [cB_ext (bF_eq (s.as.b++ys) t)] at r7
  refine cg_exit ?_
  refine Qh ?_
  refine Qh ?_
  refine Ql ?_
  refine Nx [1,4,5,6,7,8,29,30] ?_
  refine Zr ?_
  refine Za (y_fld (off:=0)) ?_
  refine Za (y_part r5 (m:=8) (cS_part _ _ _) (by show _≤10;omega) (by kernel_rfl) (by kernel_rfl) rfl rfl) ?_
  refine Za (y_part r7 (m:=64) (cB64_part _) (by rw [cB_size];omega) (by kernel_rfl) (by kernel_rfl) rfl rfl) ?_
  refine Zc (rmix_any _ _ _) rfl rfl ?_
  rintro _ w14 ⟨rfl,hw14⟩
  have zw14:=hw14.size
  refine Za (y_fld (off:=0)) ?_
  have r5:=RowAt.below hw14 r5.lt r5
  have qw15:=r5
  refine lg_st Wn r5 rfl rfl rfl (hs8 _) (cW_one _ _) (by show 0+(cW 8 _).size≤10;rw [cW_size];omega) (cS_set _ _ _ _) rfl fun w15 sw15=>?_
  have r5:=sw15.row
  have zw15:=sw15.size
  refine Zn [1,4,5,6,7,8,29,30,39,40,41,42,43] ?_
  refine Qe ?_
  refine ZM ?_
  refine Za (y_cut_l 64 rfl (by omega) rfl rfl rfl) ?_
  refine ZA ?_
  refine Qk ?_
  refine Qi ?_
  have o3:=((o3.below (hw14.mono (by omega))).set qw15 cS_no sw15).cutA 64 cq hc3 (by omega)
  rw [List.drop_drop,show 64*t+64=64*(t+1) by omega] at o3
  have r4:=RowAt.below hw14 r4.lt r4
  have r4:=sw15.keep r4 (by omega)
  have u:=Un u hw14
  have u:=u.trans (sw15.below _ (by omega))
  exact fun a ha=>(show t<((s.as.b++ys).length / 64)∧_ from ⟨(by omega),_,_,_,ha.keep (fk rfl (fk rfl (fk rfl (fk rfl fn)))),r4,(show RowAt _ _ _ (cS (fold s.as.h (s.as.b++ys) (t+1)) _ _) from r5),o3,by omega,by omega,by omega,u⟩)
 refine cg_exit ?_
 refine Qh ?_
 refine Qh ?_
 refine Ql ?_
 refine Nx [1,4,5,6] ?_
 refine Zr ?_
 refine Za (y_fld (off:=0)) ?_
 refine Za (y_part r5 (m:=8) (cS_part _ _ _) (by show _≤10;omega) (by kernel_rfl) (by kernel_rfl) rfl rfl) ?_
 refine ZM ?_
 refine Za (y_fld (off:=9)) ?_
 refine Za (Qo r5 (cS_9 _ _ _) (by kernel_rfl) rfl rfl) ?_
 refine ZM ?_
 refine Za (y_len (el:=5)) ?_
 refine Za (yi_add rfl rfl rfl (by omega) (by omega)) ?_
 refine Za (y_build rfl rfl (bR3 _ () _)) ?_
 have qw16:=r4
 refine lg_stw Wn r4 rfl rfl rfl (hsR _ _ _) (cS_one _ _ _ _ _) rfl rfl fun w16 sw16=>?_
 have r4:=sw16.row
 have zw16:=sw16.size
 refine Znr [4] ?_
 have u:=u.trans (sw16.below _ (by omega))
 have o3:=o3.set qw16 cS_no sw16
 have hN:(s.as.b++ys).length / 64=t:=by omega
 have eh:fold s.as.h (s.as.b++ys) t=hOf s.as.h (s.as.b++ys):=by unfold hOf;rw [hN]
 have er:(s.as.b++ys).drop (64*t)=rest (s.as.b++ys):=by unfold rest;rw [hN]
 rw [eh] at r4
 rw [er] at o3
 exact eg_ret_agg rfl rfl r4 (by kernel_rfl) (hsR _ _ _) ⟨_,rfl,(by rw [ew];exact ⟨_,_,_,(by first | rfl | rw [hl2]),o3.more (by omega),u⟩)⟩
/- ShRef:
  The document's Pad, Done, Sum and Same.
-/
set_option maxRecDepth 20000
theorem and_255' (z:Int):bits .and .i64 z 255=z % 256:=and_255 z
theorem rpad_any (n:Int) (w:World):Calls Tryz.prog 180 #[nv n] w fun e w'=>∃ v,e=.returned v∧SlR w (padL n) v w':=by
 by_cases hlo:n<0
 ·refine Qf (n:=38) Tryz.func180 rfl Tryz.ntmps180 (by simp) ?_
  show CG _ _ _ [(0,nv n)] _ _
  have u:=Below.refl w.heap.size w
  refine ZrA ?_
  refine Zn [0,2] ?_
  refine Qd ?_
  refine ZrM ?_
  refine Za (yb (dT hlo) yi_lss) ?_
  refine ZM ?_
  refine Zf 7 ?_
  refine Zf 7 ?_
  refine Zan (y_pick true) [0,2,10] ?_
  refine cg_ct rfl ?_
  refine ZrA ?_
  refine Znr [0,2] ?_
  refine Qc ?_
  exact Qa rfl rfl ⟨_,rfl,none,0,0,rfl,Nat.le_refl _,(by rw [padL_no (by omega)];exact Oct.nil _ _ _),u⟩
 by_cases hhi:1125899906842624<n
 ·refine Qf (n:=38) Tryz.func180 rfl Tryz.ntmps180 (by simp) ?_
  show CG _ _ _ [(0,nv n)] _ _
  have u:=Below.refl w.heap.size w
  refine ZrA ?_
  refine Zn [0,2] ?_
  refine Qd ?_
  refine ZrM ?_
  refine Za (yb (dF hlo) yi_lss) ?_
  refine ZM ?_
  refine Zt 7 y_move ?_
  refine Zt 7 (yb (dT hhi) yi_gtr) ?_
  refine Zan (y_pick false) [0,2,10] ?_
  refine cg_ct rfl ?_
  refine ZrA ?_
  refine Znr [0,2] ?_
  refine Qc ?_
  exact Qa rfl rfl ⟨_,rfl,none,0,0,rfl,Nat.le_refl _,(by rw [padL_no (by omega)];exact Oct.nil _ _ _),u⟩
 refine Qf (n:=38) Tryz.func180 rfl Tryz.ntmps180 (by simp) ?_
 show CG _ _ _ [(0,nv n)] _ _
 have u:=Below.refl w.heap.size w
 have hz:=zeroN_lt n
 have hk:0≤n∧n≤1125899906842624:=by omega
 refine ZrA ?_
 refine Zn [0,2] ?_
 refine Qd ?_
 refine ZrM ?_
 refine Za (yb (dF hlo) yi_lss) ?_
 refine ZM ?_
 refine Zt 7 y_move ?_
 refine Zt 7 (yb (dF hhi) yi_gtr) ?_
 refine Zan (y_pick false) [0,2,10] ?_
 refine Zcf [0,2] ?_
 refine Zr ?_
 refine lg_bslice (el:=5) (by kernel_rfl) (z:=.int .u8 0) (by kernel_rfl) (by decide) (by decide) rfl rfl (cs:=#[ov 128#8]) (by kernel_rfl) rfl rfl (by decide) fun b1 w1 n1=>?_
 have r1:=n1.row
 have k1:=n1.blk
 have z1:=n1.size
 have o1:=oct_lit r1 (xs:=[128]) rfl (by intro z hz;simp at hz;omega)
 refine ZAn [0,2,3] ?_
 refine Qd ?_
 refine Qj ?_
 have po:=own_lit (xs:=[128]) r1 (Nat.le_of_eq k1.symm) rfl rfl (by decide)
 have u:=Un u n1.below
 refine Qr (fun t a v=>∃ (ur:Value),Holds 38 [(0,nv n),(3,ur)] a∧v.ownsRow w.heap.size 5 1 ur (128::List.replicate t 0).length ((128::List.replicate t 0).map (Value.int .u8))∧Below w.heap.size w v) (zeroN n) (fun a ha=>⟨_,ha.keep (fk rfl (fk rfl fn)),po,u⟩) ?_
 rintro t a v ht ⟨ur,ha,po,u⟩
 refine cg_at ha ?_
 clear ha a
 have zv:=u.size
 have hln:(128::List.replicate t (0:Int)).length=t+1:=by simp
 refine Qd ?_
 refine ZrM ?_
 refine ZM ?_
 refine Za (y_lenown po rfl rfl) ?_
 refine Za (yi_add rfl rfl rfl (by omega) (by omega)) ?_
 refine Za (yi_add rfl rfl rfl (by omega) (by omega)) ?_
 refine Za (yi_rem rfl rfl rfl (by omega) (by omega)) ?_
 refine Zan yi_neq [0,3,12,13,14,15,16,17,18] ?_
 refine cg_ifn rfl (fun hc18=>?_) (fun hc18=>?_)
 ·simp only [List.length_cons,List.length_replicate] at hc18
  refine Zki [0,3,12,13,14,15,16,17,18] ?_
  refine Qj ?_
  refine Qe ?_
  refine ZM ?_
  refine lg_bslice (el:=5) (by kernel_rfl) (z:=.int .u8 0) (by kernel_rfl) (by decide) (by decide) rfl rfl (cs:=#[ov 0#8]) (by kernel_rfl) rfl rfl (by decide) fun b2 w2 n2=>?_
  have r2:=n2.row
  have k2:=n2.blk
  have z2:=n2.size
  have o2:=oct_lit r2 (xs:=[0]) rfl (by intro z hz;simp at hz;omega)
  have po:=own_below po n2.below
  refine lg_append po o2 (by have ho:=o2.1;simp only [List.length_cons,List.length_replicate,List.length_nil] at ho ⊢;omega) (by omega) Wn rfl rfl rfl rfl rfl (by decide) fun u3 w3 po hw3=>?_
  have zw3:=hw3.size
  refine ZA ?_
  refine Qk ?_
  refine Qi ?_
  have e1:(128::List.replicate t 0)++[0]=(128::List.replicate (t+1) (0:Int)):=by rw [List.replicate_succ',List.cons_append]
  rw [e1] at po
  have u:=Un u n2.below
  have u:=u.trans (hw3.mono (by omega))
  exact fun a ha=>(show t<(zeroN n)∧_ from ⟨(by unfold zeroN at *;omega),_,ha.keep (fk rfl (fk rfl fn)),po,u⟩)
 simp only [List.length_cons,List.length_replicate] at hc18
 have ht2:t=zeroN n:=by unfold zeroN at *;omega
 subst ht2
 refine cg_exit ?_
 refine Qh ?_
 refine Qh ?_
 refine Ql ?_
 refine Nx [0,3] ?_
 refine Qd ?_
 refine ZrA ?_
 refine Zn [0,3,4] ?_
 refine Qj ?_
 have p0:(128::List.replicate (zeroN n) 0:List Int)=128::(List.replicate (zeroN n) 0++be8 (n*8) 0):=by simp [be8]
 rw [p0] at po
 refine Qr (fun j a v=>∃ (ur:Value),Holds 38 [(0,nv n),(3,ur),(4,nv (7-(j:Int)))] a∧v.ownsRow w.heap.size 5 1 ur (128::(List.replicate (zeroN n) 0++be8 (n*8) j)).length ((128::(List.replicate (zeroN n) 0++be8 (n*8) j)).map (Value.int .u8))∧Below w.heap.size w v) 8 (fun a ha=>⟨_,ha.keep (fk rfl (fk rfl (fk rfl fn))),po,u⟩) ?_
 rintro j a v ht ⟨ur,ha,po,u⟩
 refine cg_at ha ?_
 clear ha a
 have zv:=u.size
 refine Qd ?_
 refine ZrM ?_
 refine Zan yi_geq [0,3,4,22,23] ?_
 refine cg_if rfl (fun hc23=>?_) (fun hc23=>?_)
 ·refine Zki [0,3,4,22,23] ?_
  refine Qd ?_
  refine Qj ?_
  refine Qe ?_
  refine ZM ?_
  refine ZM ?_
  refine Za (yi_mul rfl rfl rfl (by omega) (by omega)) ?_
  refine ZM ?_
  refine Za (yi_mul rfl rfl rfl (by omega) (by omega)) ?_
  refine Za (y_tou (by omega) (by omega) rfl rfl) ?_
  refine Za (yi_shr rfl rfl rfl (by omega) (by omega)) ?_
  refine Za (yv (show nv _=nv _ from congrArg nv (and_255' _)) yi_and) ?_
  refine Za y_to8 ?_
  refine lg_bslice (el:=5) (by kernel_rfl) (z:=.int .u8 0) (by kernel_rfl) (by decide) (by decide) rfl rfl (cs:=#[ov (toB (n*8 / 2 ^ (8*(7-(j:Int))).toNat % 256))]) (by kernel_rfl) rfl rfl (by decide) fun b4 w4 n4=>?_
  have r4:=n4.row
  have k4:=n4.blk
  have z4:=n4.size
  have o4:=oct_lit r4 (xs:=[vb (toB (n*8 / 2 ^ (8*(7-(j:Int))).toNat % 256))]) rfl (by intro z hz;rw [List.mem_singleton] at hz;subst hz;exact vb_range _)
  have po:=own_below po n4.below
  refine lg_append po o4 (by have ho:=o4.1;simp only [List.length_cons,List.length_append,List.length_replicate,List.length_nil,be8_len] at ho ⊢;omega) (by omega) Wn rfl rfl rfl rfl rfl (by decide) fun u5 w5 po hw5=>?_
  have zw5:=hw5.size
  refine ZA ?_
  refine Qk ?_
  refine Qi ?_
  refine Nx [0,4,22,23,26,27,28,29,30,31,32,33,34,35,36,3] ?_
  refine Qe ?_
  refine ZM ?_
  refine Za (yv (show nv (7-(j:Int)-1)=nv (7-((j+1:Nat):Int)) from congrArg nv (by omega)) (yi_sub rfl rfl rfl (by omega) (by omega))) ?_
  refine ZA ?_
  refine Qk ?_
  have e2:(128::(List.replicate (zeroN n) 0++be8 (n*8) j))++[vb (toB (n*8 / 2 ^ (8*(7-(j:Int))).toNat % 256))]=128::(List.replicate (zeroN n) 0++be8 (n*8) (j+1)):=by
   rw [vb_toB_mod,Int.emod_emod,show (8*(7-(j:Int))).toNat=8*(7-j) by omega,List.cons_append,List.append_assoc]
   rfl
  rw [e2] at po
  have u:=Un u n4.below
  have u:=u.trans (hw5.mono (by omega))
  exact fun a ha=>(show j<8∧_ from ⟨(by omega),_,ha.keep (fk rfl (fk rfl (fk rfl fn))),po,u⟩)
 obtain rfl:j=8:=by omega
 refine cg_exit ?_
 refine Qh ?_
 refine Qh ?_
 refine Ql ?_
 refine Nx [3] ?_
 refine ZrM ?_
 refine ZAnr [2] ?_
 rw [←padL_ok hk] at po
 obtain ⟨A9,c9,rfl,hc9,_,o9⟩:=own_sl po (padL_rng n)
 exact Qa rfl rfl ⟨_,rfl,A9,_,c9,rfl,hc9,o9,u⟩
/- HsSum:
  The two sums of octets: what they answer, and where it lies.
-/
set_option maxRecDepth 20000
/-- It lies in a row of octets. -/
def U8 (w:World) (A:Option Addr):Prop:=∀ p,A=some p→∃ cs,w.heap[p.block]?=some (.cells cs 5 (0,0))
theorem own_u8 {w:World} {base k n c:Nat} {A:Option Addr} {xs:List Value} (h:w.ownsRow base 5 1 (.slice A n c) k xs):U8 w A:=by
 rcases h.2 with ⟨e,_⟩ | ⟨g,cap,cur,e,hg,hh,_⟩
 ·cases e
  intro p q
  cases q
 cases e
 intro p q
 cases q
 exact ⟨cur,hh⟩
/-- It lies in memory from a on. -/
def FrA (a:Nat) (A:Option Addr):Prop:=∀ p,A=some p→a≤p.block
theorem own_frA {w:World} {a base k n c e z:Nat} {A:Option Addr} {xs:List Value} (h:w.ownsRow base e z (.slice A n c) k xs) (hb:a≤base):FrA a A:=fun p q=>by
 have:=(h.lt p.block (by rw [q];rfl)).1
 omega
theorem FrA.le {a b:Nat} {A:Option Addr} (h:FrA a A) (e:b≤a):FrA b A:=fun p q=>Nat.le_trans e (h p q)
/-- Octets of one's own, in a row of octets. -/
def SlT (w:World) (xs:List Int) (v:Value) (w':World):Prop :=
 ∃ A m c,v=.slice A m c∧m≤c∧(c≤maxLen∧U8 w' A∧FrA w.heap.size A)∧Oct w' w'.heap.size A m xs∧Below w.heap.size w w'
theorem octetsT_any (h:Nat→BitVec 32) (w:World):Calls Tryz.prog 187 #[.agg (cW 8 h)] w fun e w'=>∃ v,e=.returned v∧SlT w (outF h 8) v w':=by
 refine Qf (n:=27) Tryz.func187 rfl Tryz.ntmps187 (by simp) ?_
 show CG _ _ _ [(0,.agg (cW 8 h))] _ _
 have u:=Below.refl w.heap.size w
 refine Zr ?_
 refine lg_boxw Wn rfl rfl (hs8 _) rfl (by decide) fun b1 w1 n1=>?_
 have r1:=n1.row
 have k1:=n1.blk
 have z1:=n1.size
 refine ZAn [1,2] ?_
 refine Zr ?_
 refine lg_mk0 32 Wn rfl (by decide) rfl rfl rfl rfl (by decide) fun u2 w2 p2 hw2=>?_
 have zw2:=hw2.size
 refine ZAn [1,2,3] ?_
 refine Qd ?_
 refine Zr ?_
 have r1:=RowAt.below hw2 r1.lt r1
 refine Za (y_part r1 (m:=8) (cW8_part _) (by rw [cW_size];omega) (by kernel_rfl) (by kernel_rfl) rfl rfl) ?_
 refine ZM ?_
 refine Zn [2,3,7,8] ?_
 refine Qj ?_
 have u:=Un (Un u n1.below) hw2
 refine Qr (fun i a v=>∃ (ur:Value),Holds 27 [(7,.agg (cW 8 h)),(8,iv i),(3,ur)] a∧v.ownsRow w1.heap.size 5 1 ur (outF h i).length ((outF h i).map (Value.int .u8))∧w1.heap.size≤v.heap.size∧Below w.heap.size w v) 8 (fun a ha=>⟨_,ha.keep (fk rfl (fk rfl (fk rfl fn))),p2,by omega,u⟩) ?_
 rintro i a v ht ⟨ur,ha,po,hbs,u⟩
 refine cg_at ha ?_
 clear ha a
 have zv:=u.size
 refine Zr ?_
 refine Zan yi_lss [7,8,3,9] ?_
 refine Qd ?_
 refine cg_if rfl (fun hc9=>?_) (fun hc9=>?_)
 ·refine Zki [7,8,3,9] ?_
  refine Qd ?_
  refine Qj ?_
  refine Zr ?_
  refine Za (y_idx (j:=i) hu8 hsw huw (by omega) (cW_get (by omega)) rfl rfl rfl) ?_
  refine ZAn [7,8,3,9,10,5] ?_
  refine Qe ?_
  refine ZM ?_
  refine ZM ?_
  refine Za (y_shr 24 .u64 (by decide) rfl rfl rfl) ?_
  refine Za y_wb ?_
  refine ZM ?_
  refine Za (y_shr 16 .u64 (by decide) rfl rfl rfl) ?_
  refine Za y_wb ?_
  refine ZM ?_
  refine Za (y_shr 8 .u64 (by decide) rfl rfl rfl) ?_
  refine Za y_wb ?_
  refine ZM ?_
  refine Za y_wb ?_
  refine lg_bslice (el:=5) (by kernel_rfl) (z:=.int .u8 0) (by kernel_rfl) (by decide) (by decide) rfl rfl (cs:=#[ov ((h i >>> 24).setWidth 8),ov ((h i >>> 16).setWidth 8),ov ((h i >>> 8).setWidth 8),ov ((h i).setWidth 8)]) (by kernel_rfl) rfl rfl (by decide) fun b3 w3 n3=>?_
  have r3:=n3.row
  have k3:=n3.blk
  have z3:=n3.size
  have o3:=oct_lit r3 (xs:=be4 (h i)) rfl (be4_rng _)
  have po:=own_below po n3.below
  refine lg_append po o3 (by have ho:=o3.1;have:=outF_len h i;have:(be4 (h i)).length=4:=rfl;omega) (by omega) Wn rfl rfl rfl rfl rfl (by decide) fun u4 w4 po hw4=>?_
  have zw4:=hw4.size
  refine ZA ?_
  refine Qk ?_
  refine Qi ?_
  refine Nx [7,8,9,10,5,11,12,13,14,15,16,17,18,19,20,21,22,23,24,3] ?_
  refine Qe ?_
  refine Za (yi_add rfl rfl rfl (by omega) (by omega)) ?_
  refine ZM ?_
  refine Qk ?_
  have u:=Un u n3.below
  have u:=u.trans (hw4.mono (by omega))
  exact fun a ha=>(show i<8∧_ from ⟨(by omega),_,ha.keep (fk rfl (fk rfl (fk rfl fn))),po,by omega,u⟩)
 obtain rfl:i=8:=by omega
 refine cg_exit ?_
 refine Qh ?_
 refine Qh ?_
 refine Ql ?_
 refine Nx [3] ?_
 refine ZrM ?_
 refine ZAnr [2] ?_
 obtain ⟨A9,c9,rfl,hc9,x9,o9⟩:=own_sl po (outF_rng h 8)
 exact Qa rfl rfl ⟨_,rfl,A9,_,c9,rfl,hc9,⟨x9,own_u8 po,own_frA po (by omega)⟩,o9,u⟩
theorem doneT_any (s:S) (A:Option Addr) (m c:Nat) (w:World) {tg:TypeId} (rg:RowAt w 2 tg (cW 64 num)) (o1:Oct w w.heap.size A m s.b):Calls Tryz.prog 164 #[.agg (cS s.h (.slice A m c) s.n)] w fun e w'=>∃ v,e=.returned v∧SlT w s.done v w':=by
 refine Qf (n:=12) Tryz.func164 rfl Tryz.ntmps164 (by simp) ?_
 show CG _ _ _ [(0,.agg (cS s.h (.slice A m c) s.n))] _ _
 have u:=Below.refl w.heap.size w
 have hl1:=o1.1
 have h0:=rg.lt
 refine Zr ?_
 refine lg_boxw Wn rfl rfl (hsS _ _ _) rfl (by decide) fun b1 w1 n1=>?_
 have r1:=n1.row
 have k1:=n1.blk
 have z1:=n1.size
 refine ZAn [1,2] ?_
 refine Zr ?_
 refine Za (y_part r1 (m:=10) (cS_all _ _ _) (by show _≤10;omega) (by kernel_rfl) (by kernel_rfl) rfl rfl) ?_
 have o1:=o1.below (n1.below.mono (by omega))
 refine Zc (sound_any s _ _ _ _ (o1.more (by omega))) rfl rfl ?_
 rintro _ w2 ⟨A2,m2,c2,rfl,o2,hw2⟩
 have zw2:=hw2.size
 have r1:=RowAt.below hw2 r1.lt r1
 have qw3:=r1
 refine lg_stw Wn r1 rfl rfl rfl (hsS _ _ _) (cS_one _ _ _ _ _) rfl rfl fun w3 sw3=>?_
 have r1:=sw3.row
 have zw3:=sw3.size
 refine Zn [1,2] ?_
 refine Qd ?_
 refine cg_held (by kernel_rfl) fun W4 eW4=>?_
 have dW4:=below_drew _ _ eW4
 have zW4:=size_drew _ _ eW4
 clear eW4
 have r1:=RowAt.below dW4 r1.lt r1
 refine Zh 0 (fun q hq=>y_part (RowAt.below hq r1.lt r1) (m:=10) (cS_all _ _ _) (by show _≤10;omega) (by kernel_rfl) (by kernel_rfl) rfl rfl) ?_
 refine Zh 1 (fun q hq=>y_fld (off:=9) (by kernel_rfl) rfl rfl) ?_
 refine Zh 2 (fun q hq=>Qo (RowAt.below hq r1.lt r1) (cS_9 _ _ _) (by kernel_rfl) rfl rfl) ?_
 refine Zo 3 ?_
 refine Zc (pad_any _ _) rfl rfl ?_
 rintro _ w5 ⟨A5,m5,c5,rfl,hc5,o5,hw5⟩
 have zw5:=hw5.size
 refine hg_next hw5 ?_
 refine hg_up hw5 ?_
 refine Zo 4 ?_
 have o2:=((o2.set qw3 cS_no sw3).below (dW4.mono (by omega))).below (hw5.mono (by omega))
 have rg:=n1.keep rg
 have rg:=RowAt.below hw2 rg.lt rg
 have rg:=sw3.keep rg (by omega)
 have rg:=RowAt.below dW4 rg.lt rg
 have rg:=RowAt.below hw5 rg.lt rg
 refine Zc (write_any s.as _ _ _ _ _ _ _ _ rg (o2.more (by omega)) (o5.more (by omega)) hc5 (by have:=o5.1;have:=padL_le s.as.n;omega)) rfl rfl ?_
 rintro _ w6 ⟨A6,m6,c6,rfl,o6,hw6⟩
 have zw6:=hw6.size
 refine hg_next hw6 ?_
 refine hg_up hw6 ?_
 refine Zh 5 (fun q hq=>y_fieldp (m:=8) (off:=0) (ft:=133) (by kernel_rfl) (by kernel_rfl) (by kernel_rfl) rfl rfl (cS_part _ _ _)) ?_
 refine Zo 6 ?_
 refine Zc (octetsT_any _ _) rfl rfl ?_
 rintro _ w7 ⟨A7,m7,c7,rfl,hc7,x7,o7,hw7⟩
 have zw7:=hw7.size
 refine hg_next hw7 ?_
 refine hg_up hw7 ?_
 refine Zh 7 (fun q hq=>y_assign rfl rfl) ?_
 refine hg_done (by kernel_rfl) ?_
 refine Nx [2] ?_
 refine cg_ret ?_
 have u:=Un (Un u n1.below) hw2
 have u:=u.trans (sw3.below _ (by omega))
 have u:=Un (Un u dW4) hw5
 have u:=Un (Un u hw6) hw7
 exact Qa rfl rfl ⟨_,rfl,_,_,_,rfl,hc7,⟨x7.1,x7.2.1,x7.2.2.le (by omega)⟩,o7.more (by omega),u⟩
theorem sumT_any (A:Option Addr) (m c:Nat) (xs:List Int) (w:World) {tg:TypeId} (rg:RowAt w 2 tg (cW 64 num)) (oi:Oct w w.heap.size A m xs) (hnc:m≤c) (hm2:m≤281474976710656):Calls Tryz.prog 132 #[.slice A m c] w fun e w'=>∃ v,e=.returned v∧SlT w (sumL xs) v w':=by
 refine Qf (n:=7) Tryz.func132 rfl Tryz.ntmps132 (by simp) ?_
 show CG _ _ _ [(0,.slice A m c)] _ _
 have u:=Below.refl w.heap.size w
 have hl1:=oi.1
 have h0:=rg.lt
 refine ZrA ?_
 refine Zn [0,2] ?_
 refine Zr ?_
 refine Zc (new_any _) rfl rfl ?_
 rintro _ w1 ⟨A1,m1,c1,rfl,o1,hw1⟩
 have zw1:=hw1.size
 refine ZM ?_
 have oi:=oi.below (hw1.mono (by omega))
 have rg:=RowAt.below hw1 rg.lt rg
 refine Zc (write_any S.new _ _ _ _ _ _ xs _ rg (o1.more (by omega)) (oi.more (by omega)) hnc hm2) rfl rfl ?_
 rintro _ w2 ⟨A2,m2,c2,rfl,o2,hw2⟩
 have zw2:=hw2.size
 have rg:=RowAt.below hw2 rg.lt rg
 refine Zc (doneT_any (S.new.wr xs) _ _ _ _ rg (o2.more (by omega))) rfl rfl ?_
 rintro _ w3 ⟨A3,m3,c3,rfl,hc3,x3,o3,hw3⟩
 have zw3:=hw3.size
 refine ZAnr [2] ?_
 have u:=Un (Un (Un u hw1) hw2) hw3
 exact Qa rfl rfl ⟨_,rfl,_,_,_,rfl,hc3,⟨x3.1,x3.2.1,x3.2.2.le (by omega)⟩,o3.more (by omega),u⟩
theorem rdoneT_any (s:S) (A:Option Addr) (m c:Nat) (w:World) (oi:Oct w w.heap.size A m s.b):Calls Tryz.prog 155 #[.agg (cS s.h (.slice A m c) s.n)] w fun e w'=>∃ v,e=.returned v∧SlT w s.done v w':=by
 refine Qf (n:=41) Tryz.func155 rfl Tryz.ntmps155 (by simp) ?_
 show CG _ _ _ [(0,.agg (cS s.h (.slice A m c) s.n))] _ _
 have u:=Below.refl w.heap.size w
 have hl1:=oi.1
 refine Zr ?_
 refine lg_boxw Wn rfl rfl (hsR _ _ _) rfl (by decide) fun b1 w1 n1=>?_
 have r1:=n1.row
 have k1:=n1.blk
 have z1:=n1.size
 refine ZAn [1,2] ?_
 refine Zr ?_
 refine Za (y_part r1 (m:=10) (cS_all _ _ _) (by show _≤10;omega) (by kernel_rfl) (by kernel_rfl) rfl rfl) ?_
 have oi:=oi.below (n1.below.mono (by omega))
 refine Zc (ras_any s _ _ _ _ (oi.more (by omega))) rfl rfl ?_
 rintro _ w2 ⟨A2,m2,c2,rfl,o2,hw2⟩
 have zw2:=hw2.size
 refine lg_allocw Wn rfl hzR rfl (by decide) fun b3 w3 n3=>?_
 have r3:=n3.row
 have k3:=n3.blk
 have z3:=n3.size
 have qw4:=r3
 refine lg_stw Wn r3 rfl rfl rfl (hsR _ _ _) (cS_one _ _ _ _ _) rfl rfl fun w4 sw4=>?_
 have r3:=sw4.row
 have zw4:=sw4.size
 refine Zn [2,3] ?_
 refine cg_cut (fun v E'=>∃ (b4:Nat) (Aq:Option Addr) (mq:Nat) (cq:Nat),E'=[(4,pv b4 0)]∧RowAt v b4 135 (cS (s.as.wr (padL s.as.n)).h (.slice Aq mq cq) (s.as.wr (padL s.as.n)).n)∧w.heap.size≤b4∧Below w.heap.size w v) ?_ ?_
 ·refine cg_held (by kernel_rfl) fun W5 eW5=>?_
  have dW5:=below_drew _ _ eW5
  have zW5:=size_drew _ _ eW5
  clear eW5
  have pb:=Below.refl W5.heap.size W5
  have r3:=RowAt.below dW5 r3.lt r3
  refine hg_take 0 (by rfl) Wn (by rfl) rfl (by decide) (by kernel_rfl) (by kernel_rfl) (by kernel_rfl) (fun _ _ _ h=>h) pb (fun q hq=>y_part (RowAt.below hq r3.lt r3) (m:=10) (cS_all _ _ _) (by show _≤10;omega) (by kernel_rfl) (by kernel_rfl) rfl rfl) ?_
  refine hg_take 1 (by rfl) Wn (by rfl) rfl (by decide) (by kernel_rfl) (by kernel_rfl) (by kernel_rfl) (fun _ _ _ h=>h) pb (fun q hq=>y_fld (off:=9) (by kernel_rfl) rfl rfl) ?_
  refine hg_take 2 (by rfl) Wn (by rfl) rfl (by decide) (by kernel_rfl) (by kernel_rfl) (by kernel_rfl) (fun _ _ _ h=>h) pb (fun q hq=>Qo (RowAt.below hq r3.lt r3) (cS_9 _ _ _) (by kernel_rfl) rfl rfl) ?_
  refine hg_two 3 5 (by rfl) (by rfl) (by kernel_rfl) Wn Wn ?_ ?_
  ·refine Zc (rpad_any _ _) rfl rfl ?_
   rintro _ w6 ⟨A6,m6,c6,rfl,hc6,o6,hw6⟩
   have zw6:=hw6.size
   have pb:=pb.trans (hw6.mono pb.size)
   refine hg_next pb ?_
   refine hg_two 4 5 (by rfl) (by rfl) (by kernel_rfl) Wn Wn ?_ ?_
   ·have o2:=(o2.below (n3.below.mono (by omega))).set qw4 cS_no sw4
    have o2:=(o2.below (dW5.mono (by omega))).below (hw6.mono (by omega))
    refine Zc (rwrite_any s.as _ _ _ _ _ _ _ _ (o2.more (by omega)) (o6.more (by omega)) (by have:=o6.1;have:=padL_le s.as.n;omega)) rfl rfl ?_
    rintro _ w7 ⟨A7,m7,c7,rfl,o7,hw7⟩
    have zw7:=hw7.size
    have pb:=pb.trans (hw7.mono pb.size)
    refine hg_next pb ?_
    refine Zo 5 ?_
    refine lg_allocw Wn rfl hzR rfl (by decide) fun b8 w8 n8=>?_
    have r8:=n8.row
    have k8:=n8.blk
    have z8:=n8.size
    have pb:=pb.trans (n8.below.mono pb.size)
    refine hg_next pb ?_
    refine Zo 6 ?_
    have qw9:=r8
    refine lg_stw Wn r8 rfl rfl rfl (hsR _ _ _) (cS_one _ _ _ _ _) rfl rfl fun w9 sw9=>?_
    have r8:=sw9.row
    have zw9:=sw9.size
    have pb:=pb.trans (sw9.below _ (by omega))
    refine hg_next pb ?_
    refine hg_done (by kernel_rfl) ?_
    have u:=Un (Un (Un u n1.below) hw2) n3.below
    have u:=u.trans (sw4.below _ (by omega))
    have u:=Un (Un u dW5) hw6
    have u:=Un (Un u hw7) n8.below
    have u:=u.trans (sw9.below _ (by omega))
    exact fun a ha=>⟨_,⟨b8,_,_,_,rfl,r8,by omega,u⟩,ha.keep (fk rfl fn)⟩
   refine lg_allocw Wn rfl hzR rfl (by decide) fun b10 w10 n10=>?_
   have r10:=n10.row
   have k10:=n10.blk
   have z10:=n10.size
   have pb:=pb.trans (n10.below.mono pb.size)
   refine hg_next pb ?_
   refine Zo 4 ?_
   have o2:=(o2.below (n3.below.mono (by omega))).set qw4 cS_no sw4
   have o2:=((o2.below (dW5.mono (by omega))).below (hw6.mono (by omega))).below (n10.below.mono (by omega))
   have o6:=o6.below (n10.below.mono (by omega))
   refine Zc (rwrite_any s.as _ _ _ _ _ _ _ _ (o2.more (by omega)) (o6.more (by omega)) (by have:=o6.1;have:=padL_le s.as.n;omega)) rfl rfl ?_
   rintro _ w11 ⟨A11,m11,c11,rfl,o11,hw11⟩
   have zw11:=hw11.size
   have pb:=pb.trans (hw11.mono pb.size)
   refine hg_next pb ?_
   refine Zo 6 ?_
   have r10:=RowAt.below hw11 r10.lt r10
   have qw12:=r10
   refine lg_stw Wn r10 rfl rfl rfl (hsR _ _ _) (cS_one _ _ _ _ _) rfl rfl fun w12 sw12=>?_
   have r10:=sw12.row
   have zw12:=sw12.size
   have pb:=pb.trans (sw12.below _ (by omega))
   refine hg_next pb ?_
   refine hg_done (by kernel_rfl) ?_
   have u:=Un (Un (Un u n1.below) hw2) n3.below
   have u:=u.trans (sw4.below _ (by omega))
   have u:=Un (Un u dW5) hw6
   have u:=Un (Un u n10.below) hw11
   have u:=u.trans (sw12.below _ (by omega))
   exact fun a ha=>⟨_,⟨b10,_,_,_,rfl,r10,by omega,u⟩,ha.keep (fk rfl fn)⟩
  refine lg_allocw Wn rfl hzR rfl (by decide) fun b13 w13 n13=>?_
  have r13:=n13.row
  have k13:=n13.blk
  have z13:=n13.size
  have pb:=pb.trans (n13.below.mono pb.size)
  refine hg_next pb ?_
  refine Zo 3 ?_
  refine Zc (rpad_any _ _) rfl rfl ?_
  rintro _ w14 ⟨A14,m14,c14,rfl,hc14,o14,hw14⟩
  have zw14:=hw14.size
  have pb:=pb.trans (hw14.mono pb.size)
  refine hg_next pb ?_
  refine Zo 4 ?_
  have o2:=(o2.below (n3.below.mono (by omega))).set qw4 cS_no sw4
  have o2:=((o2.below (dW5.mono (by omega))).below (n13.below.mono (by omega))).below (hw14.mono (by omega))
  refine Zc (rwrite_any s.as _ _ _ _ _ _ _ _ (o2.more (by omega)) (o14.more (by omega)) (by have:=o14.1;have:=padL_le s.as.n;omega)) rfl rfl ?_
  rintro _ w15 ⟨A15,m15,c15,rfl,o15,hw15⟩
  have zw15:=hw15.size
  have pb:=pb.trans (hw15.mono pb.size)
  refine hg_next pb ?_
  refine Zo 6 ?_
  have r13:=RowAt.below hw14 r13.lt r13
  have r13:=RowAt.below hw15 r13.lt r13
  have qw16:=r13
  refine lg_stw Wn r13 rfl rfl rfl (hsR _ _ _) (cS_one _ _ _ _ _) rfl rfl fun w16 sw16=>?_
  have r13:=sw16.row
  have zw16:=sw16.size
  have pb:=pb.trans (sw16.below _ (by omega))
  refine hg_next pb ?_
  refine hg_done (by kernel_rfl) ?_
  have u:=Un (Un (Un u n1.below) hw2) n3.below
  have u:=u.trans (sw4.below _ (by omega))
  have u:=Un (Un u dW5) n13.below
  have u:=Un (Un u hw14) hw15
  have u:=u.trans (sw16.below _ (by omega))
  exact fun a ha=>⟨_,⟨b13,_,_,_,rfl,r13,by omega,u⟩,ha.keep (fk rfl fn)⟩
 rintro vc17 _ ⟨b4,Aq,mq,cq,rfl,r4,hb4,u⟩
 have zv:=u.size
 refine ZrA ?_
 refine Zn [4,5] ?_
 refine Qd ?_
 refine ZrA ?_
 refine Zn [4,5,6] ?_
 refine Qj ?_
 have po:=own_nil vc17
 refine Qr (fun i a v=>∃ (ur:Value),Holds 41 [(4,pv b4 0),(5,ur),(6,iv i)] a∧RowAt v b4 135 (cS (s.as.wr (padL s.as.n)).h (.slice Aq mq cq) (s.as.wr (padL s.as.n)).n)∧v.ownsRow vc17.heap.size 5 1 ur (outF (s.as.wr (padL s.as.n)).h i).length ((outF (s.as.wr (padL s.as.n)).h i).map (Value.int .u8))∧vc17.heap.size≤v.heap.size∧w.heap.size≤vc17.heap.size∧b4<vc17.heap.size∧Below w.heap.size w v) 8 (fun a ha=>⟨_,ha.keep (fk rfl (fk rfl (fk rfl fn))),r4,po,Nat.le_refl _,u.size,r4.lt,u⟩) ?_
 rintro i a v ht ⟨ur,ha,r4,po,hbs,hbw,hbb,u⟩
 refine cg_at ha ?_
 clear ha a
 have zv:=u.size
 refine Qd ?_
 refine ZrM ?_
 refine Zan yi_lss [4,5,6,15,16] ?_
 refine cg_if rfl (fun hc16=>?_) (fun hc16=>?_)
 ·refine Zki [4,5,6,15,16] ?_
  refine Qd ?_
  refine Qj ?_
  refine ZrM ?_
  refine Za (y_fld (off:=0)) ?_
  refine Za (y_ixa (j:=i) hu8 hsw (by omega) rfl rfl rfl) ?_
  refine Za (Qo r4 (cS_w _ _ _ (by omega)) (by kernel_rfl) rfl rfl) ?_
  refine ZAn [4,5,6,15,16,19,20,21,22,7] ?_
  refine Qe ?_
  refine ZM ?_
  refine ZM ?_
  refine Za (y_shr 24 .u64 (by decide) rfl rfl rfl) ?_
  refine Za y_wb ?_
  refine ZM ?_
  refine Za (y_shr 16 .u64 (by decide) rfl rfl rfl) ?_
  refine Za (y_and (Y:=255#32)) ?_
  refine Za (yv (show ov _=ov _ from congrArg (fun z=>ov z) (and255 _)) y_wb) ?_
  refine ZM ?_
  refine Za (y_shr 8 .u64 (by decide) rfl rfl rfl) ?_
  refine Za (y_and (Y:=255#32)) ?_
  refine Za (yv (show ov _=ov _ from congrArg (fun z=>ov z) (and255 _)) y_wb) ?_
  refine ZM ?_
  refine Za (y_and (Y:=255#32)) ?_
  refine Za (yv (show ov _=ov _ from congrArg (fun z=>ov z) (and255 _)) y_wb) ?_
  refine lg_bslice (el:=5) (by kernel_rfl) (z:=.int .u8 0) (by kernel_rfl) (by decide) (by decide) rfl rfl (cs:=#[ov (((s.as.wr (padL s.as.n)).h i >>> 24).setWidth 8),ov (((s.as.wr (padL s.as.n)).h i >>> 16).setWidth 8),ov (((s.as.wr (padL s.as.n)).h i >>> 8).setWidth 8),ov (((s.as.wr (padL s.as.n)).h i).setWidth 8)]) (by kernel_rfl) rfl rfl (by decide) fun b18 w18 n18=>?_
  have r18:=n18.row
  have k18:=n18.blk
  have z18:=n18.size
  have o18:=oct_lit r18 (xs:=be4 ((s.as.wr (padL s.as.n)).h i)) rfl (be4_rng _)
  have po:=own_below po n18.below
  refine lg_append po o18 (by have ho:=o18.1;have:=outF_len (s.as.wr (padL s.as.n)).h i;have:(be4 ((s.as.wr (padL s.as.n)).h i)).length=4:=rfl;omega) (by omega) Wn rfl rfl rfl rfl rfl (by decide) fun u19 w19 po hw19=>?_
  have zw19:=hw19.size
  refine ZA ?_
  refine Qk ?_
  refine Qi ?_
  refine Nx [4,6,15,16,19,20,21,22,7,23,24,25,26,27,28,29,30,31,32,33,34,35,36,37,38,39,5] ?_
  refine Qe ?_
  refine ZM ?_
  refine Za (yi_add rfl rfl rfl (by omega) (by omega)) ?_
  refine ZA ?_
  refine Qk ?_
  have r4:=n18.keep r4
  have r4:=RowAt.below hw19 (by omega) r4
  have u:=Un u n18.below
  have u:=u.trans (hw19.mono (by omega))
  exact fun a ha=>(show i<8∧_ from ⟨(by omega),_,ha.keep (fk rfl (fk rfl (fk rfl fn))),r4,po,by omega,hbw,hbb,u⟩)
 obtain rfl:i=8:=by omega
 refine cg_exit ?_
 refine Qh ?_
 refine Qh ?_
 refine Ql ?_
 refine Nx [5] ?_
 refine ZrM ?_
 refine ZAnr [2] ?_
 obtain ⟨A9,c9,rfl,hc9,x9,o9⟩:=own_sl po (outF_rng _ 8)
 exact Qa rfl rfl ⟨_,rfl,A9,_,c9,rfl,hc9,⟨x9,own_u8 po,own_frA po (by omega)⟩,o9,u⟩
theorem rsumT_any (A:Option Addr) (m c:Nat) (xs:List Int) (w:World) (oi:Oct w w.heap.size A m xs) (hm2:m≤100000):Calls Tryz.prog 125 #[.slice A m c] w fun e w'=>∃ v,e=.returned v∧SlT w (sumL xs) v w':=by
 refine Qf (n:=7) Tryz.func125 rfl Tryz.ntmps125 (by simp) ?_
 show CG _ _ _ [(0,.slice A m c)] _ _
 have u:=Below.refl w.heap.size w
 have hl1:=oi.1
 refine ZrA ?_
 refine Zn [0,2] ?_
 refine Zr ?_
 refine Zc (rnew_any _) rfl rfl ?_
 rintro _ w1 ⟨A1,m1,c1,rfl,o1,hw1⟩
 have zw1:=hw1.size
 refine ZM ?_
 have oi:=oi.below (hw1.mono (by omega))
 refine Zc (rwrite_any S.new _ _ _ _ _ _ xs _ (o1.more (by omega)) (oi.more (by omega)) hm2) rfl rfl ?_
 rintro _ w2 ⟨A2,m2,c2,rfl,o2,hw2⟩
 have zw2:=hw2.size
 refine Zc (rdoneT_any (S.new.wr xs) _ _ _ _ (o2.more (by omega))) rfl rfl ?_
 rintro _ w3 ⟨A3,m3,c3,rfl,hc3,x3,o3,hw3⟩
 have zw3:=hw3.size
 refine ZAnr [2] ?_
 have u:=Un (Un (Un u hw1) hw2) hw3
 exact Qa rfl rfl ⟨_,rfl,_,_,_,rfl,hc3,⟨x3.1,x3.2.1,x3.2.2.le (by omega)⟩,o3.more (by omega),u⟩
theorem sumL_length (xs:List Int):(sumL xs).length=32:=outF_len _ 8
end Go.Proofs.YtfdmhdnlmndhdaaGreatDoor
