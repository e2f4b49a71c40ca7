/-
  KitS: ShBase, ShSmall, ShCut, ShProg, ShRefW, ShRef, HsSum.
-/
import Derived.Test.YtjjdcnkbibkmkaaGreatDoorKitB
import Derived.Test.YtjjdcnkbibkmkaaGreatDoorKitV
namespace Go.Proofs.YtjjdcnkbibkmkaaGreatDoor
open Go.Proofs.Tryz
open Go.ChangeShapes Go.WideShapes Go.ChangeAt Go.RowKit
set_option linter.unusedVariables false
variable {A:Option Addr} {F:Nat->BitVec 8} {a b c k m:Nat} {xs:List Int}

/- ShBase:
  States of a sum as values; what the chapter's functions answer, as plain functions.
-/
def cS (h:Nat->BitVec 32) (s:Value) (k:Int):Array Value:=#[wv (h 0),wv (h 1),wv (h 2),wv (h 3),wv (h 4),wv (h 5),wv (h 6),wv (h 7),s,.int .i64 k]
theorem cS_part (h:Nat->BitVec 32) (s:Value) (k:Int):(cS h s k).extract 0 (0+8)=cW 8 h:=rfl
theorem cS_8 (h:Nat->BitVec 32) (s:Value) (k:Int):(cS h s k)[8]?=some s:=rfl
theorem cS_9 (h:Nat->BitVec 32) (s:Value) (k:Int):(cS h s k)[9]?=some (nv k):=rfl
theorem cS_one (h:Nat->BitVec 32) (A:Option Addr) (m c:Nat) (k:Int):(cS h (.slice A m c) k).all (·.oneCell')=true:=by simp [cS,wv,Value.oneCell']
theorem cS_all (h:Nat->BitVec 32) (s:Value) (k:Int):(cS h s k).extract 0 (0+10)=cS h s k:=rfl
theorem cS_no {h:Nat->BitVec 32} {k:Int}:NoOct (cS h (.slice A m c) k):=by
 intro i z e
 match i,e with
 | 0,e | 1,e | 2,e | 3,e | 4,e | 5,e | 6,e | 7,e | 8,e | 9,e=>simp [cS,wv] at e
 | i+10,e=>simp [cS] at e
theorem cB64_part (F:Nat->BitVec 8):(cB 64 F).extract 0 (0+64)=cB 64 F:=by
 have h:=Array.extract_size (xs:=cB 64 F);rw [cB_size] at h;exact h
theorem cB_ext {n:Nat} {G:Nat->BitVec 8} (h:∀ i,i<n->F i=G i):cB n F=cB n G:=by
 unfold cB;refine congrArg _ (List.map_congr_left fun i hi=>?_);rw [h i (by simpa using hi)]
theorem cW8_part (h:Nat->BitVec 32):(cW 8 h).extract 0 (0+8)=cW 8 h:=rfl
theorem hsS (h:Nat->BitVec 32) (s:Value) (k:Int):(prog.info? 243).map (·.size)=some (cS h s k).size:=by kernel_rfl
theorem hzS:(prog.info? 243).map (fun i=>(i.zero,i.size))=some (some (.agg (cS (fun _=>0) (.slice none 0 0) 0)),(cS (fun _=>0) (.slice none 0 0) 0).size):=by kernel_rfl
theorem hzM:(prog.info? 262).map (fun i=>(i.zero,i.size))=some (some (.agg (cW 8 fun _=>0)),(cW 8 fun _=>0).size):=by kernel_rfl
theorem hsM (h:Nat->BitVec 32):(prog.info? 262).map (·.size)=some (cW 8 h).size:=by rw [cW_size];kernel_rfl

theorem bS3 (h:Nat->BitVec 32) (h':Unit) (k:Int):prog.built 243 [(0,.agg (cW 8 h)),(1,.slice A m c),(2,nv k)]=some (cS h (.slice A m c) k):=by kernel_rfl
theorem bS1 (h:Nat->BitVec 32):prog.built 243 [(0,.agg (cW 8 h))]=some (cS h (.slice none 0 0) 0):=by kernel_rfl
theorem bM (h:Nat->BitVec 32):prog.built 262 [(0,.agg (cW 8 h))]=some (cW 8 h):=by kernel_rfl
structure S where
 h:Nat->BitVec 32
 b:List Int
 n:Int
def S.new:S:=⟨firstF,[],0⟩
def S.ok (s:S):Prop:=s.b.length<64/\0<=s.n/\s.n<=1125899906842624
instance (s:S):Decidable s.ok:=inferInstanceAs (Decidable (_/\_))
def S.as (s:S):S:=if s.ok then s else S.new
def blkS (xs:List Int) (t:Nat):Nat->BitVec 8:=fun i=>toB (xs.getD (64*t+i) 0)
def fold (h:Nat->BitVec 32) (xs:List Int):Nat->Nat->BitVec 32
 | 0=>h
 | t+1=>mixF (fold h xs t) (blkS xs t)
def hOf (h:Nat->BitVec 32) (xs:List Int):Nat->BitVec 32:=fold h xs (xs.length / 64)
def rest (xs:List Int):List Int:=xs.drop (64*(xs.length / 64))
def S.wr (s:S) (ys:List Int):S :=
 if s.as.n+ys.length>1125899906842624 then S.new else ⟨hOf s.as.h (s.as.b++ys),rest (s.as.b++ys),s.as.n+ys.length⟩
def be4 (x:BitVec 32):List Int:=[vb ((x >>> 24).setWidth 8),vb ((x >>> 16).setWidth 8),vb ((x >>> 8).setWidth 8),vb (x.setWidth 8)]
def outF (h:Nat->BitVec 32):Nat->List Int
 | 0=>[]
 | i+1=>outF h i++be4 (h i)
def be8 (n:Int):Nat->List Int
 | 0=>[]
 | i+1=>be8 n i++[n / 2 ^ (8*(7-i)) % 256]
def zeroN (n:Int):Nat:=((64-(n+9) % 64) % 64).toNat
def padL (n:Int):List Int:=if 0<=n/\n<=1125899906842624 then 128::(List.replicate (zeroN n) 0++be8 (n*8) 8) else []
def S.done (s:S):List Int:=outF (s.as.wr (padL s.as.n)).h 8
def sumL (xs:List Int):List Int:=(S.new.wr xs).done

def StR (w:World) (s:S) (v:Value) (w':World):Prop :=
 ∃ A m c,v=.agg (cS s.h (.slice A m c) s.n)/\Oct w' w'.heap.size A m s.b/\Bw w w'
def SlR (w:World) (xs:List Int) (v:Value) (w':World):Prop :=
 ∃ A m c,v=.slice A m c/\m<=c/\Oct w' w'.heap.size A m xs/\Bw w w'
theorem S.as_ok {s:S} (h:s.ok):s.as=s:=if_pos h
theorem S.as_no {s:S} (h:¬s.ok):s.as=S.new:=if_neg h
theorem S.new_ok:S.new.ok:=⟨by simp [S.new],by simp [S.new],by simp [S.new]⟩
theorem S.as_b (s:S):s.as.b.length<64:=by
 by_cases h:s.ok
 ·rw [S.as_ok h];exact h.1
 rw [S.as_no h];exact S.new_ok.1
theorem S.as_n (s:S):0<=s.as.n/\s.as.n<=1125899906842624:=by
 by_cases h:s.ok
 ·rw [S.as_ok h];exact h.2
 rw [S.as_no h];exact S.new_ok.2
/- ShSmall:
  Contracts of the small functions of the sum and of the document: new states, what a state counts as, states handed on.
-/
set_option maxRecDepth 20000
theorem new_any (w:World):Calls prog 277 #[] w fun e w'=>∃ v,e=.returned v/\StR w S.new v w':=by
 refine Ze func277 ntmps277 ?_;have u:=Br w;refine Zr<|lg_allocw Wn rfl hzS rfl (by decide) fun b1 w1 n1=>?_
 have ⟨r1,k1,z1,_⟩:=n1.f;refine Zn [0] ?_;refine Zr<|Zd (first_any _) ?_
 rintro _ w2 ⟨rfl,hw2⟩;have zw2:=hw2.size;refine Za (y_build rfl rfl (bS1 _)) ?_;have r1:=Rb hw2 r1;have qw3:=r1;refine lg_stw Wn r1 rfl rfl rfl (hsS _ _ _) (cS_one _ _ _ _ _) rfl rfl fun w3 sw3=>?_;have ⟨r1,zw3⟩:=sw3.f;refine Znr [0] ?_;exact eg_ret_agg rfl rfl r1 (by kernel_rfl) (hsS _ _ _) ⟨_,rfl,none,0,0,rfl,Oct.nil _ _ _,(Un (Un u n1.below) hw2).trans sw3.bl⟩
theorem counted_any (k:Int) (w:World):Calls prog 331 #[nv k] w fun e w'=>e=.returned (.bool (decide (0<=k/\k<=1125899906842624)))/\w'=w:=by
 by_cases h0:0<=k
 ·refine Ze func331 ntmps331 ?_;have u:=Br w;refine ZrAn [0,2] ?_;refine ZrM ?_;refine Za (yb (dT h0) yi_geq) ?_;refine Xa 2 ?_;refine Zt 5 yi_leq ?_;refine Xu 2 [2] ?_;exact Qa rfl rfl ⟨by simp [h0],rfl⟩
 refine Ze func331 ntmps331 ?_;have u:=Br w;refine ZrAn [0,2] ?_;refine ZrM ?_;refine Za (yb (dF h0) yi_geq) ?_;refine Xu 5 [2] ?_;exact Qa rfl rfl ⟨by simp [h0],rfl⟩
theorem sound_any (s:S) (A:Option Addr) (m c:Nat) (w:World) (o0:Oct w w.heap.size A m s.b):Calls prog 302 #[.agg (cS s.h (.slice A m c) s.n)] w fun e w'=>∃ v,e=.returned v/\StR w s.as v w':=by
 have hl:=o0.1;by_cases h64:64<=m
 ·refine Ze func302 ntmps302 ?_;have u:=Br w;refine Zr<|lg_boxw Wn rfl rfl (hsS _ _ _) rfl (by decide) fun b1 w1 n1=>?_
  have ⟨r1,k1,z1,_⟩:=n1.f;refine lg_allocw Wn rfl hzS rfl (by decide) fun b2 w2 n2=>?_;have ⟨r2,k2,z2,_⟩:=n2.f;refine Zn [1,2] ?_;refine Qd<|Zr<|Zy 8 ?_
  have r1:=n2.keep r1;refine Za (Qo r1 (cS_8 _ _ _) (by kernel_rfl) rfl rfl) ?_;refine Za (y_len (el:=5)) ?_;refine Za (yb (dT (by omega)) (yi_geq rfl rfl rfl)) ?_;refine Xt 6 [1,2,12] ?_;refine Zr<|Zd (new_any _) ?_
  rintro _ w3 ⟨A3,m3,c3,rfl,o3,hw3⟩;have zw3:=hw3.size;have r2:=Rb hw3 r2;have qw4:=r2;refine lg_stw Wn r2 rfl rfl rfl (hsS _ _ _) (cS_one _ _ _ _ _) rfl rfl fun w4 sw4=>?_;have ⟨r2,zw4⟩:=sw4.f;refine Znr [1,2] ?_;refine Qc ?_;have u:=(Un (Un (Un u n1.below) n2.below) hw3).trans sw4.bl;have o3:=o3.set qw4 cS_no sw4;exact eg_ret_agg rfl rfl r2 (by kernel_rfl) (hsS _ _ _) (by rw [S.as_no (by unfold S.ok;omega)];exact ⟨_,rfl,_,_,_,rfl,o3.more (by omega),u⟩)
 by_cases hk:0<=s.n/\s.n<=1125899906842624
 ·refine Ze func302 ntmps302 ?_;have u:=Br w;refine Zr<|lg_boxw Wn rfl rfl (hsS _ _ _) rfl (by decide) fun b1 w1 n1=>?_
  have ⟨r1,k1,z1,_⟩:=n1.f;refine lg_allocw Wn rfl hzS rfl (by decide) fun b2 w2 n2=>?_;have ⟨r2,k2,z2,_⟩:=n2.f;refine Zn [1,2] ?_;refine Qd<|Zr<|Zy 8 ?_
  have r1:=n2.keep r1;refine Za (Qo r1 (cS_8 _ _ _) (by kernel_rfl) rfl rfl) ?_;refine Za (y_len (el:=5)) ?_;refine Za (yb (dF (by omega)) (yi_geq rfl rfl rfl)) ?_;refine ZM ?_;refine Zx 7 9 ?_;refine Zt 7 (Qo r1 (cS_9 _ _ _) (by kernel_rfl) rfl rfl) ?_;refine Zt 7 (yb (dT hk) (Qp (counted_any _ _))) ?_;refine Xn 2 [1,2,12] ?_;refine Zcf [1,2] ?_;refine Zr<|Za (y_part r1 (m:=10) (cS_all _ _ _) (by show _<=10;omega) (by kernel_rfl) (by kernel_rfl) rfl rfl) ?_
  have qw3:=r2;refine lg_stw Wn r2 rfl rfl rfl (hsS _ _ _) (cS_one _ _ _ _ _) rfl rfl fun w3 sw3=>?_;have ⟨r2,zw3⟩:=sw3.f;refine Znr [2] ?_;have u:=(Un (Un u n1.below) n2.below).trans sw3.bl;have o0:=((o0.below (Bm n1.below)).below (Bm n2.below)).set qw3 cS_no sw3;exact eg_ret_agg rfl rfl r2 (by kernel_rfl) (hsS _ _ _) (by rw [S.as_ok ⟨by omega,by omega,by omega⟩];exact ⟨_,rfl,_,_,_,rfl,o0.more u.size,u⟩)
 refine Ze func302 ntmps302 ?_;have u:=Br w;refine Zr<|lg_boxw Wn rfl rfl (hsS _ _ _) rfl (by decide) fun b1 w1 n1=>?_
 have ⟨r1,k1,z1,_⟩:=n1.f;refine lg_allocw Wn rfl hzS rfl (by decide) fun b2 w2 n2=>?_;have ⟨r2,k2,z2,_⟩:=n2.f;refine Zn [1,2] ?_;refine Qd<|Zr<|Zy 8 ?_
 have r1:=n2.keep r1;refine Za (Qo r1 (cS_8 _ _ _) (by kernel_rfl) rfl rfl) ?_;refine Za (y_len (el:=5)) ?_;refine Za (yb (dF (by omega)) (yi_geq rfl rfl rfl)) ?_;refine ZM ?_;refine Zx 7 9 ?_;refine Zt 7 (Qo r1 (cS_9 _ _ _) (by kernel_rfl) rfl rfl) ?_;refine Zt 7 (yb (dF hk) (Qp (counted_any _ _))) ?_;refine Xt 2 [1,2,12] ?_;refine Zr<|Zd (new_any _) ?_
 rintro _ w3 ⟨A3,m3,c3,rfl,o3,hw3⟩;have zw3:=hw3.size;have r2:=Rb hw3 r2;have qw4:=r2;refine lg_stw Wn r2 rfl rfl rfl (hsS _ _ _) (cS_one _ _ _ _ _) rfl rfl fun w4 sw4=>?_;have ⟨r2,zw4⟩:=sw4.f;refine Znr [1,2] ?_;refine Qc ?_;have u:=(Un (Un (Un u n1.below) n2.below) hw3).trans sw4.bl;have o3:=o3.set qw4 cS_no sw4;exact eg_ret_agg rfl rfl r2 (by kernel_rfl) (hsS _ _ _) (by rw [S.as_no (by unfold S.ok;omega)];exact ⟨_,rfl,_,_,_,rfl,o3.more (by omega),u⟩)
/- ShCut:
  Contracts of how blocks are handed on and mixed in.
-/
set_option maxRecDepth 20000
theorem putF_blk {zs:List Int} {t:Nat} (hk:k<=64) (h1:rd F k=(xs.drop (64*t)).take k) (hl:64*t+64<=xs.length) (hz:zs=xs.drop (64*t+k)) :
  ∀ i,i<64->putF F k (zs.take (64-k)) i=blkS xs t i:=by
 intro i hi;subst hz;have hlz:((xs.drop (64*t+k)).take (64-k)).length=64-k:=by rw [List.length_take,List.length_drop];omega
 unfold putF blkS;rw [hlz];by_cases h:k<=i
 ·rw [if_pos ⟨h,by omega⟩];refine congrArg toB ?_;simp only [List.getD];rw [List.getElem?_take,if_pos (by omega),List.getElem?_drop];rw [show 64*t+k+(i-k)=64*t+i by omega]
 rw [if_neg (by omega)];have h2:(rd F k)[i]?=((xs.drop (64*t)).take k)[i]?:=by rw [h1]
 rw [List.getElem?_take,if_pos (by omega),List.getElem?_drop] at h2;have hik:i<k:=by omega
 have h3:(rd F k)[i]?=some (vb (F i)):=by simp [rd,hik]
 rw [h3] at h2;simp only [List.getD];rw [<-h2];show F i=toB (vb (F i));unfold toB;rw [vb_ofInt]
theorem putF_rd (hx:∀ z∈xs,0<=z/\z<=255):rd (putF F 0 xs) xs.length=xs:=by
 refine List.ext_getElem? fun i=>?_;by_cases h:i<xs.length
 ·have h1:(rd (putF F 0 xs) xs.length)[i]?=some (vb (putF F 0 xs i)):=by simp [rd,h]
  rw [h1,List.getElem?_eq_getElem h];unfold putF;rw [if_pos ⟨Nat.zero_le _,by omega⟩,Nat.sub_zero,List.getD,List.getElem?_eq_getElem h];show some (vb (toB xs[i]))=_;rw [vb_toB (hx _ (List.getElem_mem h))]
 rw [List.getElem?_eq_none (by rw [rd_len];omega),List.getElem?_eq_none (by omega)]
theorem mixer_any (h:Nat->BitVec 32) (F:Nat->BitVec 8) (bm:Nat) (w:World) {tg tm:TypeId} (rg:RowAt w 2 tg (cW 64 num)) (rm:RowAt w bm tm (cW 8 h)) (h0:bm≠2):Calls prog 306 #[pv bm 0,.agg (cB 64 F)] w fun e w'=>∃ v,e=.returned v/\v=.tuple #[]/\RowAt w' bm tm (cW 8 (mixF h F))/\But w w' bm:=by
 refine Ze func306 ntmps306 ?_;have bu:But w w bm:=But.refl bm;have hm:=rm.lt;refine Zr<|lg_boxw Wn rfl rfl (hso _) rfl (by decide) fun b1 w1 n1=>?_
 have ⟨r1,k1,z1,_⟩:=n1.f;refine Zn [0,3] ?_;refine cg_heldS (fun q=>RowAt q b1 232 (cB 64 F)) (by kernel_rfl) (fun W2 eW2=>RowAt.below (below_drew _ _ eW2) r1.lt r1) fun W2 eW2=>?_;have dW2:=below_drew _ _ eW2;have zW2:=size_drew _ _ eW2;clear eW2;have r1:=Rb dW2 r1;refine Zg 0 r1 (fun q hq=>y_move rfl rfl) ?_;refine Zg 1 r1 (fun q hq=>y_move rfl rfl) ?_;refine hgs_takev 2 (by rfl) Wn rfl (by decide) (by kernel_rfl) (by kernel_rfl) (by kernel_rfl) (fun _ _ _ h=>h) r1 (v_nilc rfl rfl) ?_;refine Zg 3 r1 (fun q hq=>y_fld (off:=0) (by kernel_rfl) rfl rfl) ?_;refine Zg 5 r1 (fun q hq=>y_part hq (m:=64) (cB64_part _) (by rw [cB_size];omega) (by kernel_rfl) (by kernel_rfl) rfl rfl) ?_;refine hgs_one 4 (by rfl) (by kernel_rfl) Wn ?_;have rm:=Rb dW2 (n1.keep rm);refine Za (y_part rm (m:=8) (cW8_part _) (by rw [cW_size];omega) (by kernel_rfl) (by kernel_rfl) rfl rfl) ?_;refine hgs_next r1 ?_;refine hgs_one 6 (by rfl) (by kernel_rfl) Wn ?_;have rg:=Rb dW2 (n1.keep rg);refine Zd (mix_any _ _ _ rg) ?_;rintro _ w3 ⟨rfl,hw3⟩;have zw3:=hw3.size;have r1:=Rb hw3 r1;refine hgs_next r1 ?_;refine hgs_takev 7 (by rfl) Wn rfl (by decide) (by kernel_rfl) (by kernel_rfl) (by kernel_rfl) (fun _ _ _ h=>h) r1 (v_nilc rfl rfl) ?_;refine Zg 8 r1 (fun q hq=>y_fld (off:=0) (by kernel_rfl) rfl rfl) ?_;refine hgs_one 9 (by rfl) (by kernel_rfl) Wn ?_;have rm:=Rb hw3 rm;have qw4:=rm;refine lg_stw Wn rm rfl rfl rfl (hs8 _) (cW_one _ _) (by rw [cW_size,cW_size]) rfl fun w4 sw4=>?_;have ⟨rm,zw4⟩:=sw4.f;refine hgs_next (sw4.kp r1) ?_;refine hgs_done (by kernel_rfl) ?_;have bu:=(bu.grow n1.below).grow dW2;exact eg_end_none rfl ⟨_,rfl,rfl,rm,(bu.grow hw3).set sw4 (by omega)⟩
theorem concat_sl {A1 A2:Option Addr} {n1 n2 c1 c2 B:Nat} {x1 x2:List Int} (B':Nat) (w:World) (h1:Oct w B A1 n1 x1) (h2:Oct w B' A2 n2 x2) {tr:TypeId} (r:RowAt w b tr #[.slice A1 n1 c1,.slice A2 n2 c2]) (hB:B<=w.heap.size/\B'<=w.heap.size) (hn:n1+n2<=70368744177664) :
  Calls prog 250 #[.slice (some ⟨b,0,none⟩) 2 2] w fun e w'=>∃ v,e=.returned v/\SlR w (x1++x2) v w':=by
 refine (concat_two b n1 n2 c1 c2 w.heap.size A1 A2 x1 x2 w (h1.more hB.1) (h2.more hB.2) Lr r.lt ?_ ?_ hn).mono ?_
 ·rw [cell_of_row w b 0 _ tr _ r];rfl
 ·rw [cell_of_row w b 1 _ tr _ r];rfl
 rintro e w' ⟨v,rfl,ho,hb,hs⟩;have hy:∀ y∈x1++x2,0<=y/\y<=255:=by
  intro y hy;rcases List.mem_append.1 hy with h | h
  ·exact h1.2.1 y h
  exact h2.2.1 y h
 obtain ⟨A,c,rfl,h3,_,hO⟩:=own_sl ho hy;exact ⟨_,rfl,A,_,c,rfl,h3,hO,hb⟩
theorem cut_any (h:Nat->BitVec 32) (A A2:Option Addr) (m c m2 c2 bm:Nat) (xs ys:List Int) (w:World) {tg tm:TypeId} (rg:RowAt w 2 tg (cW 64 num)) (rm:RowAt w bm tm (cW 8 h)) (h0:bm≠2)
  (o1:Oct w w.heap.size A m xs) (o2:Oct w w.heap.size A2 m2 ys) (h64:m<64) (hnc:m2<=c2) :
  Calls prog 305 #[.slice A m c,.slice A2 m2 c2,.func (.func 306) #[pv bm 0] #[]] w fun e w'=>∃ v,e=.returned v/\∃ A' m' c',v=.slice A' m' c'/\Oct w' w'.heap.size A' m' (rest (xs++ys))/\RowAt w' bm tm (cW 8 (hOf h (xs++ys)))/\But w w' bm:=by
 refine Ze func305 ntmps305 ?_;have bu:But w w bm:=But.refl bm;have hm:=rm.lt;have hl1:=o1.1;have hl2:=o2.1;have hall:(xs++ys).length=m+m2:=by rw [List.length_append,hl1,hl2]
 refine ZrAn [0,1,2,6] ?_;refine Zr<|lg_allocw Wn rfl hzo rfl (by decide) fun b1 w1 n1=>?_
 have ⟨r1,k1,z1,_⟩:=n1.f;refine Zn [0,1,2,6,7] ?_;refine Zr<|Za (y_arr_all (N:=64) (by kernel_rfl) hsb (by decide) rfl rfl) ?_
 refine ZM ?_;have o1:=o1.below (Bm n1.below);refine lg_copy r1 o1 (by omega) Wn rfl rfl rfl rfl (by decide) fun w2 sw2=>?_;have ⟨r1,zw2⟩:=sw2.f;refine Zan (yv (show iv (min m 64)=iv m by rw [show min m 64=m by omega]) (y_assign rfl rfl)) [1,2,6,7,8] ?_;refine Qd<|Qj ?_
 have rm:=sw2.kp (n1.keep rm);have o2:=(o2.below (Bm n1.below)).below sw2.bl;have bu:=(bu.grow n1.below).set sw2 (by omega);have g1:2<b1:=by have:=rg.lt;omega
 have rg:=sw2.kp (n1.keep rg);have rms:RowAt w2 bm tm (cW 8 (fold h (xs++ys) 0)):=rm;have o2s:Oct w2 w.heap.size A2 m2 ((xs++ys).drop (64*0+m)):=by rw [show 64*0+m=xs.length by omega,List.drop_left];exact o2
 have emin:min m 64=m:=by omega
 have etk:xs.take 64=xs:=List.take_of_length_le (by omega);rw [etk] at r1;have hFs:rd (putF (fun _=>0) 0 xs) m=((xs++ys).drop (64*0)).take m:=by rw [Nat.mul_zero,List.drop_zero,<-hl1,putF_rd o1.2.1,List.take_left]
 refine Qr (fun t a v=>∃ (F:Nat->BitVec 8) (k:Nat) (A3:Option Addr) (m3:Nat) (c3:Nat),Holds 31 [(7,pv b1 0),(1,.slice A3 m3 c3),(8,iv k),(2,.func (.func 306) #[pv bm 0] #[])] a/\RowAt v 2 tg (cW 64 num)/\RowAt v bm tm (cW 8 (fold h (xs++ys) t))/\RowAt v b1 232 (cB 64 F)/\Oct v w.heap.size A3 m3 ((xs++ys).drop (64*t+k))/\k<=63/\m3<=c3/\64*t+k+m3=m+m2/\rd F k=((xs++ys).drop (64*t)).take k/\But w v bm) ((m+m2) / 64) (fun a ha=>⟨_,m,_,_,_,ha.keep kz,rg,rms,r1,o2s,by omega,hnc,by omega,hFs,bu⟩) ?_;rintro t a v ht ⟨F,k,A3,m3,c3,ha,rg,rm,r1,o3,hk,hc3,hs,hF,bu⟩;refine cg_at ha ?_;clear ha a;have zv:=bu.size;refine Qd<|ZrM ?_
 refine Za (y_len (el:=5)) ?_;refine ZM ?_;refine Za (yi_sub rfl rfl rfl (by omega) (by omega)) ?_;refine Zan yi_geq [7,1,8,2,12,13,14,15,16] ?_;refine cg_if rfl (fun hc16=>?_) (fun hc16=>?_)
 ·have hle:64-k<=m3:=by omega
  refine Zki [7,1,8,2,12,13,14,15,16] ?_;refine Qj<|ZrM ?_
  refine ZM ?_;refine Za (y_arr_l (N:=64) k (by rfl) (by kernel_rfl) hsb (by omega) rfl rfl rfl) ?_;refine ZM ?_;refine lg_copy r1 o3 (by omega) Wn rfl rfl rfl rfl (by decide) fun w3 sw3=>?_;have ⟨r1,zw3⟩:=sw3.f;refine Za (y_cut_l (64-k) (by omega) hle rfl rfl rfl) ?_;refine ZAn [7,8,2,12,13,14,15,16,17,18,19,20,21,22,1] ?_;refine ZrM ?_;refine Za (yv (show (Value.agg (cB 64 (putF F k (((xs++ys).drop (64*t+k)).take (64-k)))))=.agg (cB 64 (blkS (xs++ys) t)) by rw [cB_ext (putF_blk (by omega) hF (by omega) rfl)]) (y_part r1 (m:=64) (cB64_part _) (by rw [cB_size];omega) (by kernel_rfl) (by kernel_rfl) rfl rfl)) ?_;have rm:=sw3.kp rm;have rg:=sw3.kp rg;have qm:=rm;refine lg_callv Wn (f:=306) (fs:=[pv bm 0]) (us:=[]) (vs:=[.agg (cB 64 (blkS (xs++ys) t))]) (mixer_any _ _ _ _ rg rm h0) (by kernel_rfl) rfl rfl rfl rfl (by decide) ?_;rintro _ w4 ⟨rfl,rm,hw4⟩;have zw4:=hw4.size;refine Zn [7,8,2,12,13,14,15,16,17,18,19,20,21,22,1,23,24] ?_;refine Qe<|ZA ?_
  refine Qk<|Qi ?_
  have o3:=((o3.below sw3.bl).but2 qm cW_no (by omega) hw4).cutA (64-k) c3 hc3 hle;rw [List.drop_drop,show 64*t+k+(64-k)=64*(t+1)+0 by omega] at o3;have rg:=hw4.kp rg;have r1:=hw4.kp r1;have bu:=(bu.set sw3 (by omega)).but hw4;exact fun a ha=>(show t<((m+m2) / 64)/\_ from ⟨(by omega),_,0,_,_,_,ha.keep kz,rg,(show RowAt _ _ _ (cW 8 (fold h (xs++ys) (t+1))) from rm),r1,o3,by omega,by omega,by omega,by simp [rd],bu⟩)
 have hN:(m+m2) / 64=t:=by omega
 have of:=oct_row r1 (k:=k) (by omega);have hb1:=r1.lt;refine cg_exit<|Qh<|Qh<|Ql<|Nx [7,1,8] ?_
 refine ZrM ?_;refine Za (y_arr_h (N:=64) k (by rfl) (by kernel_rfl) hsb (by decide) (by omega) rfl rfl rfl) ?_;refine ZM ?_;refine lg_bslice (el:=26) (by kernel_rfl) (z:=.slice none 0 0) (by kernel_rfl) (by decide) (by decide) rfl rfl (cs:=#[.slice (some ⟨b1,0,none⟩) k 64,.slice A3 m3 c3]) (by kernel_rfl) rfl rfl (by decide) fun b5 w5 n5=>?_;have ⟨r5,k5,z5,_⟩:=n5.f;have of:=of.below (Bm n5.below);have o3:=o3.below (Bm n5.below);refine Zc (concat_sl _ _ of o3 r5 (by omega) (by omega)) rfl rfl ?_;rintro _ w6 ⟨A6,m6,c6,rfl,hc6,o6,hw6⟩;have zw6:=hw6.size;refine ZAnr [6] ?_;have rm:=Rb hw6 (n5.keep rm);have bu:=(bu.grow n5.below).grow hw6;have er:rd F k++(xs++ys).drop (64*t+k)=rest (xs++ys):=by
  unfold rest;rw [hall,hN,hF,<-List.drop_drop,List.take_append_drop]
 have eh:fold h (xs++ys) t=hOf h (xs++ys):=by unfold hOf;rw [hall,hN]
 rw [er] at o6;rw [eh] at rm;exact Qa rfl rfl ⟨_,rfl,_,_,_,rfl,o6.more (by omega),rm,bu⟩
/- ShProg:
  Contracts of the sum's exported functions.
-/
set_option maxRecDepth 20000
theorem write_any (s:S) (A A2:Option Addr) (m c m2 c2:Nat) (ys:List Int) (w:World) {tg:TypeId} (rg:RowAt w 2 tg (cW 64 num)) (o1:Oct w w.heap.size A m s.b) (o2:Oct w w.heap.size A2 m2 ys) (hnc:m2<=c2) (hm2:m2<=281474976710656):Calls prog 276 #[.agg (cS s.h (.slice A m c) s.n),.slice A2 m2 c2] w fun e w'=>∃ v,e=.returned v/\StR w (s.wr ys) v w':=by
 refine Ze func276 ntmps276 ?_;have u:=Br w;have hl1:=o1.1;have hl2:=o2.1;have hb:=s.as_b;have hn:=s.as_n;have h0:=rg.lt;refine Zr<|lg_boxw Wn rfl rfl (hsS _ _ _) rfl (by decide) fun b1 w1 n1=>?_
 have ⟨r1,k1,z1,_⟩:=n1.f;refine lg_allocw Wn rfl hzS rfl (by decide) fun b2 w2 n2=>?_;have ⟨r2,k2,z2,_⟩:=n2.f;refine Zn [1,2,4] ?_;refine Zr ?_;have r1:=n2.keep r1;refine Za (y_part r1 (m:=10) (cS_all _ _ _) (by show _<=10;omega) (by kernel_rfl) (by kernel_rfl) rfl rfl) ?_;have o1:=(o1.below (Bm n1.below)).below (Bm n2.below);refine Zc (sound_any s _ _ _ _ (o1.more (by omega))) rfl rfl ?_;rintro _ w3 ⟨A3,m3,c3,rfl,o3,hw3⟩;have zw3:=hw3.size;have r1:=Rb hw3 r1;have qw4:=r1;refine lg_stw Wn r1 rfl rfl rfl (hsS _ _ _) (cS_one _ _ _ _ _) rfl rfl fun w4 sw4=>?_;have ⟨r1,zw4⟩:=sw4.f;refine Zn [1,2,4] ?_;refine Qd<|Zr<|Zy 9 ?_
 refine Za (Qo r1 (cS_9 _ _ _) (by kernel_rfl) rfl rfl) ?_;refine ZM ?_;refine Za (y_len (el:=5)) ?_;refine Za (yi_add rfl rfl rfl (by omega) (by omega)) ?_;refine Zan yi_gtr [1,2,4,14] ?_;refine cg_if rfl (fun hc14=>?_) (fun hc14=>?_)
 ·have ew:s.wr ys=S.new:=if_pos (by omega);refine Zr<|Zd (new_any _) ?_
  rintro _ w5 ⟨A5,m5,c5,rfl,o5,hw5⟩;have zw5:=hw5.size;have r2:=Rb hw5 (sw4.kp (Rb hw3 r2));have qw6:=r2;refine lg_stw Wn r2 rfl rfl rfl (hsS _ _ _) (cS_one _ _ _ _ _) rfl rfl fun w6 sw6=>?_;have ⟨r2,zw6⟩:=sw6.f;refine Znr [1,2,4] ?_;refine Qc ?_;have u:=(Un ((Un (Un (Un u n1.below) n2.below) hw3).trans sw4.bl) hw5).trans sw6.bl;have o5:=o5.set qw6 cS_no sw6;exact eg_ret_agg rfl rfl r2 (by kernel_rfl) (hsS _ _ _) ⟨_,rfl,(by rw [ew];exact ⟨_,_,_,(by first | rfl | rw [hl2]),o5.more (by omega),u⟩)⟩
 have ew:s.wr ys=⟨hOf s.as.h (s.as.b++ys),rest (s.as.b++ys),s.as.n+ys.length⟩:=if_neg (by omega);refine Zki [1,2,4] ?_;refine Zr<|Zy 0 ?_
 refine Za (y_part r1 (m:=8) (cS_part _ _ _) (by show _<=10;omega) (by kernel_rfl) (by kernel_rfl) rfl rfl) ?_;refine Za (y_build rfl rfl (bM _)) ?_;refine lg_allocw Wn rfl hzM rfl (by decide) fun b7 w7 n7=>?_;have ⟨r7,k7,z7,_⟩:=n7.f;have qw8:=r7;refine lg_stw Wn r7 rfl rfl rfl (hsM _) (cW_one _ _) (by rw [cW_size,cW_size]) rfl fun w8 sw8=>?_;have ⟨r7,zw8⟩:=sw8.f;refine Zn [1,2,4,5] ?_;refine Zr<|Zy 8 ?_
 have r1:=sw8.kp (n7.keep r1);refine Za (Qo r1 (cS_8 _ _ _) (by kernel_rfl) rfl rfl) ?_;refine ZM ?_;refine Za (y_mkf (xs:=[.tmp 5]) (ys:=[])) ?_;have o3:=((o3.set qw4 cS_no sw4).below (Bm n7.below)).set qw8 cW_no sw8;have o2:=(((((o2.below (Bm n1.below)).below (Bm n2.below)).below (Bm hw3)).set qw4 cS_no sw4).below (Bm n7.below)).set qw8 cW_no sw8;have rg:=sw8.kp (n7.keep (sw4.kp (Rb hw3 (n2.keep (n1.keep rg)))));have qm:=r7;refine Zc (cut_any _ _ _ _ _ _ _ _ _ _ _ rg r7 (by omega) (o3.more (by omega)) (o2.more (by omega)) (by have:=o3.1;omega) hnc) rfl rfl ?_;rintro _ w9 ⟨A9,m9,c9,rfl,o9,r7,hw9⟩;have zw9:=hw9.size;refine ZAn [1,2,4,5,6] ?_;refine Zr<|Zy 0 ?_
 refine Za (y_part r7 (m:=8) (cW8_part _) (by rw [cW_size];omega) (by kernel_rfl) (by kernel_rfl) rfl rfl) ?_;refine ZM ?_;refine Zy 9 ?_;refine Za (Qo (hw9.kp r1) (cS_9 _ _ _) (by kernel_rfl) rfl rfl) ?_;refine ZM ?_;refine Za (y_len (el:=5)) ?_;refine Za (yi_add rfl rfl rfl (by omega) (by omega)) ?_;refine Za (y_build rfl rfl (bS3 _ () _)) ?_;have r2:=hw9.kp (sw8.kp (n7.keep (sw4.kp (Rb hw3 r2))));have qw10:=r2;refine lg_stw Wn r2 rfl rfl rfl (hsS _ _ _) (cS_one _ _ _ _ _) rfl rfl fun w10 sw10=>?_;have ⟨r2,zw10⟩:=sw10.f;refine Znr [4] ?_;have u:=(((Un ((Un (Un (Un u n1.below) n2.below) hw3).trans sw4.bl) n7.below).trans sw8.bl).trans hw9.bl).trans sw10.bl;have o9:=o9.set qw10 cS_no sw10;exact eg_ret_agg rfl rfl r2 (by kernel_rfl) (hsS _ _ _) ⟨_,rfl,(by rw [ew];exact ⟨_,_,_,(by first | rfl | rw [hl2]),o9.more (by omega),u⟩)⟩
theorem be4_rng (x:BitVec 32):∀ z∈be4 x,0<=z/\z<=255:=by
 intro z hz;simp only [be4,List.mem_cons,List.not_mem_nil,or_false] at hz;rcases hz with rfl | rfl | rfl | rfl<;>exact vb_range _
theorem outF_len (h:Nat->BitVec 32):∀ i,(outF h i).length=4*i
 | 0=>rfl
 | i+1=>by
  show (outF h i++be4 (h i)).length=_;rw [List.length_append,outF_len h i];show 4*i+4=_;omega
theorem outF_rng (h:Nat->BitVec 32):∀ i,∀ z∈outF h i,0<=z/\z<=255
 | 0=>by intro z hz;cases hz
 | i+1=>by
  intro z hz;rcases List.mem_append.1 (show z∈outF h i++be4 (h i) from hz) with h1 | h1
  ·exact outF_rng h i z h1
  exact be4_rng _ z h1
def padW (n:Int) (k:Nat):Nat->Nat->BitVec 8
 | 0=>upd (fun _=>0) (0+0) 128#8
 | i+1=>upd (padW n k i) (0+(k-1-i)) (toB (n*8 / 2 ^ (8*(i:Int)).toNat))
theorem padW_at (n:Int) (k:Nat):∀ t,t<=8->9<=k->∀ j,j<k->padW n k t j=if j=0 then 128#8 else if k-1-j<t then toB (n*8 / 2 ^ (8*(k-1-j))) else 0
 | 0,_,hk,j,hj=>by
  by_cases e:j=0
  ·subst e;simp [padW,upd]
  simp [padW,upd,e]
 | t+1,ht,hk,j,hj=>by
  show (if j=0+(k-1-t) then _ else padW n k t j)=_;by_cases e:j=0+(k-1-t)
  ·rw [if_pos e,if_neg (by omega),if_pos (by omega),show (8*(t:Int)).toNat=8*(k-1-j) by omega]
  rw [if_neg e,padW_at n k t (by omega) hk j hj];by_cases e0:j=0
  ·simp [e0]
  rw [if_neg e0,if_neg e0];by_cases e1:k-1-j<t
  ·rw [if_pos e1,if_pos (by omega)]
  rw [if_neg e1,if_neg (by omega)]
theorem be8_len (n:Int):∀ i,(be8 n i).length=i
 | 0=>rfl
 | i+1=>by
  show (be8 n i++[_]).length=_;rw [List.length_append,be8_len n i];rfl
theorem be8_at (n:Int):∀ t i,i<t->(be8 n t)[i]?=some (n / 2 ^ (8*(7-i)) % 256)
 | 0,i,h=>by omega
 | t+1,i,h=>by
  show (be8 n t++[n / 2 ^ (8*(7-t)) % 256])[i]?=_;by_cases e:i<t
  ·rw [List.getElem?_append_left (by rw [be8_len];exact e),be8_at n t i e]
  have e2:i=t:=by omega
  subst e2;rw [List.getElem?_append_right (by rw [be8_len];omega),be8_len,Nat.sub_self];rfl
theorem vb_toB_mod (z:Int):vb (toB z)=z % 256:=by
 unfold vb toB;rw [BitVec.toNat_ofInt];omega
theorem padL_ok {n:Int} (h:0<=n/\n<=1125899906842624):padL n=128::(List.replicate (zeroN n) 0++be8 (n*8) 8):=if_pos h
theorem padL_no {n:Int} (h:¬(0<=n/\n<=1125899906842624)):padL n=[]:=if_neg h
theorem zeroN_lt (n:Int):zeroN n<64:=by unfold zeroN;omega
theorem padL_len {n:Int} (h:0<=n/\n<=1125899906842624):(padL n).length=9+zeroN n:=by
 rw [padL_ok h,List.length_cons,List.length_append,List.length_replicate,be8_len];omega
theorem padL_le (n:Int):(padL n).length<=72:=by
 by_cases h:0<=n/\n<=1125899906842624
 ·have:=zeroN_lt n;rw [padL_len h];omega
 rw [padL_no h];exact Nat.zero_le _
theorem padW_end {n:Int} (h:0<=n/\n<=1125899906842624):rd (padW n (9+zeroN n) 8) (9+zeroN n)=padL n:=by
 refine List.ext_getElem? fun j=>?_;by_cases hj:j<9+zeroN n
 ·have h1:(rd (padW n (9+zeroN n) 8) (9+zeroN n))[j]?=some (vb (padW n (9+zeroN n) 8 j)):=by simp [rd,hj]
  rw [h1,padW_at n _ 8 (by omega) (by omega) j hj,padL_ok h];by_cases e:j=0
  ·subst e;rfl
  rw [if_neg e];obtain ⟨i,rfl⟩:∃ i,j=i+1:=⟨j-1,by omega⟩;rw [List.getElem?_cons_succ];by_cases e1:i<zeroN n
  ·rw [if_neg (by omega),List.getElem?_append_left (by rw [List.length_replicate];exact e1),List.getElem?_replicate,if_pos e1];rfl
  rw [if_pos (by omega),List.getElem?_append_right (by rw [List.length_replicate];omega),List.length_replicate,be8_at _ _ _ (by omega),vb_toB_mod];rw [show 8*(9+zeroN n-1-(i+1))=8*(7-(i-zeroN n)) by omega]
 rw [List.getElem?_eq_none (by rw [rd_len];omega),List.getElem?_eq_none (by rw [padL_len h];omega)]
theorem pad_any (n:Int) (w:World):Calls prog 304 #[nv n] w fun e w'=>∃ v,e=.returned v/\SlR w (padL n) v w':=by
 by_cases hk:0<=n/\n<=1125899906842624
 ·refine Ze func304 ntmps304 ?_;have u:=Br w;have hz:=zeroN_lt n;refine ZrAn [0,2] ?_;refine Qd<|ZrM ?_
  refine Za (yb (dT hk) (Qp (counted_any _ _))) ?_;refine Xn 1 [0,2,9] ?_;refine Zcf [0,2] ?_;refine ZrM ?_;refine Za (yi_add rfl rfl rfl (by omega) (by omega)) ?_;refine Za (yi_add rfl rfl rfl (by omega) (by omega)) ?_;refine Za (yi_rem rfl rfl rfl (by omega) (by omega)) ?_;refine ZAn [0,2,3] ?_;refine ZrM ?_;refine Za (yi_sub rfl rfl rfl (by omega) (by omega)) ?_;refine Za (yi_rem rfl rfl rfl (by omega) (by omega)) ?_;refine ZAn [0,2,4] ?_;refine ZrM ?_;refine Za (yi_add rfl rfl rfl (by omega) (by omega)) ?_;refine Za (yi_add rfl rfl rfl (by omega) (by omega)) ?_;refine lg_mk (9+zeroN n) Wn (by unfold zeroN;omega) (by have:=zeroN_lt n;omega) rfl rfl rfl rfl (by decide) fun b1 w1 n1=>?_;have ⟨r1,k1,z1,_⟩:=n1.f;refine ZAn [0,2,5] ?_;refine ZrM ?_;refine Za (y_ixo (i:=0) (by rfl) (by omega) rfl rfl rfl) ?_;refine lg_st1 Wn r1 rfl rfl (u:=ov 128#8) (by kernel_rfl) (by kernel_rfl) rfl (by rw [cB_size];omega) cB_set rfl fun w2 sw2=>?_;have ⟨r1,zw2⟩:=sw2.f;refine Zn [0,2,5] ?_;refine Qd<|ZrM ?_
  refine Zn [0,2,5,23] ?_;refine Qj ?_;have u:=(Un u n1.below).trans sw2.bl;refine Qr (fun i a v=>Holds 41 [(0,nv n),(5,.slice (some ⟨b1,0,none⟩) (9+zeroN n) (9+zeroN n)),(23,iv i)] a/\RowAt v b1 5 (cB (9+zeroN n) (padW n (9+zeroN n) i))/\Bw w v) 8 (fun a ha=>⟨ha.keep kz,r1,u⟩) ?_;rintro i a v ht ⟨ha,rp,u⟩;refine cg_at ha ?_;clear ha a;have zv:=u.size;refine Zr<|Zan yi_lss [0,5,23,24] ?_
  refine Qd<|cg_if rfl (fun hc24=>?_) (fun hc24=>?_)
  ·refine Zki [0,5,23,24] ?_;refine Qd<|Qj<|ZrM ?_
   refine ZAn [0,5,23,24,25,6] ?_;refine Qe<|ZM ?_
   refine ZM ?_;refine Za (y_len (el:=5)) ?_;refine Za (yi_sub rfl rfl rfl (by omega) (by omega)) ?_;refine ZM ?_;refine Za (yi_sub rfl rfl rfl (by omega) (by omega)) ?_;refine ZM ?_;refine Za (yi_mul rfl rfl rfl (by omega) (by omega)) ?_;refine ZM ?_;refine Za (yi_mul rfl rfl rfl (by omega) (by omega)) ?_;refine Za (yi_shr rfl rfl rfl (by omega) (by omega)) ?_;refine Za y_to8 ?_;refine Za (y_ixo (i:=9+zeroN n-1-i) (by omega) (by omega) rfl rfl rfl) ?_;refine lg_st1 Wn rp rfl rfl rfl (by kernel_rfl) rfl (by rw [cB_size];omega) cB_set rfl fun w3 sw3=>?_;have ⟨rp,zw3⟩:=sw3.f;refine Qk<|Qi<|Nx [0,5,23,24,25,6,26,27,28,29,30,31,32,33,34,35,36,37,38] ?_
   refine Qe<|Za (yi_add rfl rfl rfl (by omega) (by omega)) ?_
   refine ZM ?_;refine Qk ?_;exact fun a ha=>(show i<8/\_ from ⟨(by omega),ha.keep kz,rp,u.trans sw3.bl⟩)
  obtain rfl:i=8:=by omega
  refine cg_exit<|Qh<|Qh<|Ql<|Nx [5] ?_
  refine XRu 2 [2] ?_;have o9:=oct_row rp Lr;rw [padW_end hk] at o9;exact Qa rfl rfl ⟨_,rfl,_,_,_,rfl,Nat.le_refl _,o9.more (by have:=rp.lt;omega),u⟩
 refine Ze func304 ntmps304 ?_;have u:=Br w;refine ZrAn [0,2] ?_;refine Qd<|ZrM ?_
 refine Za (yb (dF hk) (Qp (counted_any _ _))) ?_;refine Xn 1 [0,2,9] ?_;refine cg_ct rfl<|ZrAr [0,2] ?_
 refine Qc ?_;exact Qa rfl rfl ⟨_,rfl,none,0,0,rfl,Nat.le_refl _,(by rw [padL_no hk];exact Oct.nil _ _ _),u⟩
/- ShRefW:
  The document's Write.
-/
set_option maxRecDepth 20000
/- ShRef:
  The document's Pad, Done, Sum and Same.
-/
set_option maxRecDepth 20000
/- HsSum:
  The two sums of octets: what they answer, and where it lies.
-/
set_option maxRecDepth 20000
def U8 (w:World) (A:Option Addr):Prop:=∀ p,A=some p->∃ cs,w.heap[p.block]?=some (.cells cs 5 (0,0))
theorem own_u8 {w:World} {base n:Nat} {xs:List Value} (h:w.ownsRow base 5 1 (.slice A n c) k xs):U8 w A:=by
 rcases h.2 with ⟨e,_⟩ | ⟨g,cap,cur,e,hg,hh,_⟩
 ·cases e;intro p q;cases q
 cases e;intro p q;cases q;exact ⟨cur,hh⟩
def FrA (a:Nat) (A:Option Addr):Prop:=∀ p,A=some p->a<=p.block
theorem own_frA {w:World} {base n e z:Nat} {xs:List Value} (h:w.ownsRow base e z (.slice A n c) k xs) (hb:a<=base):FrA a A:=fun p q=>by
 have:=(h.lt p.block (by rw [q];rfl)).1;omega
theorem FrA.le (h:FrA a A) (e:b<=a):FrA b A:=fun p q=>Nat.le_trans e (h p q)
def SlT (w:World) (xs:List Int) (v:Value) (w':World):Prop :=
 ∃ A m c,v=.slice A m c/\m<=c/\(c<=maxLen/\U8 w' A/\FrA w.heap.size A)/\Oct w' w'.heap.size A m xs/\Bw w w'
theorem octetsT_any (h:Nat->BitVec 32) (w:World):Calls prog 303 #[.agg (cW 8 h)] w fun e w'=>∃ v,e=.returned v/\SlT w (outF h 8) v w':=by
 refine Ze func303 ntmps303 ?_;have u:=Br w;refine Zr<|lg_boxw Wn rfl rfl (hs8 _) rfl (by decide) fun b1 w1 n1=>?_
 have ⟨r1,k1,z1,_⟩:=n1.f;refine ZAn [1,2] ?_;refine Zr<|lg_mk0 32 Wn rfl (by decide) rfl rfl rfl rfl (by decide) fun u2 w2 p2 hw2=>?_
 have zw2:=hw2.size;refine ZAn [1,2,3] ?_;refine Qd<|Zr ?_
 have r1:=Rb hw2 r1;refine Za (y_part r1 (m:=8) (cW8_part _) (by rw [cW_size];omega) (by kernel_rfl) (by kernel_rfl) rfl rfl) ?_;refine Xn 1 [2,3,7,8] ?_;refine Qj ?_;have u:=Un (Un u n1.below) hw2;refine Qr (fun i a v=>∃ (ur:Value),Holds 27 [(7,.agg (cW 8 h)),(8,iv i),(3,ur)] a/\v.ownsRow w1.heap.size 5 1 ur (outF h i).length ((outF h i).map (Value.int .u8))/\w1.heap.size<=v.heap.size/\Bw w v) 8 (fun a ha=>⟨_,ha.keep kz,p2,by omega,u⟩) ?_;rintro i a v ht ⟨ur,ha,po,hbs,u⟩;refine cg_at ha ?_;clear ha a;have zv:=u.size;refine Zr<|Zan yi_lss [7,8,3,9] ?_
 refine Qd<|cg_if rfl (fun hc9=>?_) (fun hc9=>?_)
 ·refine Zki [7,8,3,9] ?_;refine Qd<|Qj<|Zr<|Za (y_idx (j:=i) hu8 hsw huw (by omega) (cW_get (by omega)) rfl rfl rfl) ?_
  refine ZAn [7,8,3,9,10,5] ?_;refine Qe<|ZM ?_
  refine ZM ?_;refine Za (y_shr 24 .u64 (by decide) rfl rfl rfl) ?_;refine Za y_wb ?_;refine ZM ?_;refine Za (y_shr 16 .u64 (by decide) rfl rfl rfl) ?_;refine Za y_wb ?_;refine ZM ?_;refine Za (y_shr 8 .u64 (by decide) rfl rfl rfl) ?_;refine Za y_wb ?_;refine ZM ?_;refine Za y_wb ?_;refine lg_bslice (el:=5) (by kernel_rfl) (z:=.int .u8 0) (by kernel_rfl) (by decide) (by decide) rfl rfl (cs:=#[ov ((h i >>> 24).setWidth 8),ov ((h i >>> 16).setWidth 8),ov ((h i >>> 8).setWidth 8),ov ((h i).setWidth 8)]) (by kernel_rfl) rfl rfl (by decide) fun b3 w3 n3=>?_;have ⟨r3,k3,z3,_⟩:=n3.f;have o3:=oct_lit r3 (xs:=be4 (h i)) rfl (be4_rng _);have po:=own_below po n3.below;refine lg_append po o3 (by have ho:=o3.1;have:=outF_len h i;have:(be4 (h i)).length=4:=rfl;omega) (by omega) Wn rfl rfl rfl rfl rfl (by decide) fun u4 w4 po hw4=>?_;have zw4:=hw4.size;refine ZA ?_;refine Qk<|Qi<|Nx [7,8,9,10,5,11,12,13,14,15,16,17,18,19,20,21,22,23,24,3] ?_
  refine Qe<|Za (yi_add rfl rfl rfl (by omega) (by omega)) ?_
  refine ZM ?_;refine Qk ?_;exact fun a ha=>(show i<8/\_ from ⟨(by omega),_,ha.keep kz,po,by omega,(Un u n3.below).trans (Bm hw4)⟩)
 obtain rfl:i=8:=by omega
 refine cg_exit<|Qh<|Qh<|Ql<|Nx [3] ?_
 refine XRu 2 [2] ?_;obtain ⟨A9,c9,rfl,hc9,x9,o9⟩:=own_sl po (outF_rng h 8);exact Qa rfl rfl ⟨_,rfl,A9,_,c9,rfl,hc9,⟨x9,own_u8 po,own_frA po (by omega)⟩,o9,u⟩
theorem doneT_any (s:S) (A:Option Addr) (m c:Nat) (w:World) {tg:TypeId} (rg:RowAt w 2 tg (cW 64 num)) (o1:Oct w w.heap.size A m s.b):Calls prog 275 #[.agg (cS s.h (.slice A m c) s.n)] w fun e w'=>∃ v,e=.returned v/\SlT w s.done v w':=by
 refine Ze func275 ntmps275 ?_;have u:=Br w;have hl1:=o1.1;have h0:=rg.lt;refine Zr<|lg_boxw Wn rfl rfl (hsS _ _ _) rfl (by decide) fun b1 w1 n1=>?_
 have ⟨r1,k1,z1,_⟩:=n1.f;refine ZAn [1,2] ?_;refine Zr<|Za (y_part r1 (m:=10) (cS_all _ _ _) (by show _<=10;omega) (by kernel_rfl) (by kernel_rfl) rfl rfl) ?_
 have o1:=o1.below (Bm n1.below);refine Zc (sound_any s _ _ _ _ (o1.more (by omega))) rfl rfl ?_;rintro _ w2 ⟨A2,m2,c2,rfl,o2,hw2⟩;have zw2:=hw2.size;have r1:=Rb hw2 r1;have qw3:=r1;refine lg_stw Wn r1 rfl rfl rfl (hsS _ _ _) (cS_one _ _ _ _ _) rfl rfl fun w3 sw3=>?_;have ⟨r1,zw3⟩:=sw3.f;refine Zn [1,2] ?_;refine Qd<|cg_held (by kernel_rfl) fun W4 eW4=>?_
 have dW4:=below_drew _ _ eW4;have zW4:=size_drew _ _ eW4;clear eW4;have r1:=Rb dW4 r1;refine Zh 0 (fun q hq=>y_part (Rb hq r1) (m:=10) (cS_all _ _ _) (by show _<=10;omega) (by kernel_rfl) (by kernel_rfl) rfl rfl) ?_;refine Zh 1 (fun q hq=>y_fld (off:=9) (by kernel_rfl) rfl rfl) ?_;refine Zh 2 (fun q hq=>Qo (Rb hq r1) (cS_9 _ _ _) (by kernel_rfl) rfl rfl) ?_;refine Zo 3 ?_;refine Zd (pad_any _ _) ?_;rintro _ w5 ⟨A5,m5,c5,rfl,hc5,o5,hw5⟩;have zw5:=hw5.size;refine hg_next hw5 ?_;refine hg_up hw5 ?_;refine Zo 4 ?_;have o2:=((o2.set qw3 cS_no sw3).below (Bm dW4)).below (Bm hw5);have rg:=Rb hw5 (Rb dW4 (sw3.kp (Rb hw2 (n1.keep rg))));refine Zc (write_any s.as _ _ _ _ _ _ _ _ rg (o2.more (by omega)) (o5.more (by omega)) hc5 (by have:=o5.1;have:=padL_le s.as.n;omega)) rfl rfl ?_;rintro _ w6 ⟨A6,m6,c6,rfl,o6,hw6⟩;have zw6:=hw6.size;refine hg_next hw6 ?_;refine hg_up hw6 ?_;refine Zh 5 (fun q hq=>y_fieldp (m:=8) (off:=0) (ft:=200) (by kernel_rfl) (by kernel_rfl) (by kernel_rfl) rfl rfl (cS_part _ _ _)) ?_;refine Zo 6 ?_;refine Zd (octetsT_any _ _) ?_;rintro _ w7 ⟨A7,m7,c7,rfl,hc7,x7,o7,hw7⟩;have zw7:=hw7.size;refine hg_next hw7 ?_;refine hg_up hw7 ?_;refine Zh 7 (fun q hq=>y_assign rfl rfl) ?_;refine hg_done (by kernel_rfl) ?_;refine Nx [2] ?_;refine cg_ret ?_;exact Qa rfl rfl ⟨_,rfl,_,_,_,rfl,hc7,⟨x7.1,x7.2.1,x7.2.2.le (by omega)⟩,o7.more (by omega),Un (Un (Un (Un ((Un (Un u n1.below) hw2).trans sw3.bl) dW4) hw5) hw6) hw7⟩
theorem sumT_any (A:Option Addr) (m c:Nat) (xs:List Int) (w:World) {tg:TypeId} (rg:RowAt w 2 tg (cW 64 num)) (oi:Oct w w.heap.size A m xs) (hnc:m<=c) (hm2:m<=281474976710656):Calls prog 242 #[.slice A m c] w fun e w'=>∃ v,e=.returned v/\SlT w (sumL xs) v w':=by
 refine Ze func242 ntmps242 ?_;have u:=Br w;have hl1:=oi.1;have h0:=rg.lt;refine ZrAn [0,2] ?_;refine Zr<|Zd (new_any _) ?_
 rintro _ w1 ⟨A1,m1,c1,rfl,o1,hw1⟩;have zw1:=hw1.size;refine ZM ?_;have oi:=oi.below (Bm hw1);have rg:=Rb hw1 rg;refine Zc (write_any S.new _ _ _ _ _ _ xs _ rg (o1.more (by omega)) (oi.more (by omega)) hnc hm2) rfl rfl ?_;rintro _ w2 ⟨A2,m2,c2,rfl,o2,hw2⟩;have zw2:=hw2.size;have rg:=Rb hw2 rg;refine Zc (doneT_any (S.new.wr xs) _ _ _ _ rg (o2.more (by omega))) rfl rfl ?_;rintro _ w3 ⟨A3,m3,c3,rfl,hc3,x3,o3,hw3⟩;have zw3:=hw3.size;refine ZAnr [2] ?_;exact Qa rfl rfl ⟨_,rfl,_,_,_,rfl,hc3,⟨x3.1,x3.2.1,x3.2.2.le (by omega)⟩,o3.more (by omega),Un (Un (Un u hw1) hw2) hw3⟩
theorem sumL_length (xs:List Int):(sumL xs).length=32:=outF_len _ 8
end Go.Proofs.YtjjdcnkbibkmkaaGreatDoor
