/-
  KitB: BlSmall, BlRule, BlStep, BlSpread, BlMix, BlMore, BlRef.
-/
import Derived.Test.YtjjdcnkbibkmkaaGreatDoorKitA
namespace Go.Proofs.YtjjdcnkbibkmkaaGreatDoor
open Go.Proofs.Tryz
open Go.ChangeShapes Go.WideShapes Go.ChangeAt Go.RowKit
set_option linter.unusedVariables false

/- BlSmall:
  Contracts of block's small functions, and of the document's, on any words.
-/
def tw (n:Nat) (x:BitVec 32):BitVec 32:=x >>> n ||| x <<< (32-n)
def chw (e f g:BitVec 32):BitVec 32:=e &&& f ||| ~~~e &&& g
def mjw (a b c:BitVec 32):BitVec 32:=a &&& b ||| a &&& c ||| b &&& c
def wd (i j k l:BitVec 8):BitVec 32:=i.setWidth 32 <<< 24 ||| j.setWidth 32 <<< 16 ||| k.setWidth 32 <<< 8 ||| l.setWidth 32

theorem chosen_any (x y z:BitVec 32) (w:World):Calls prog 350 #[.int .u32 (vw x),.int .u32 (vw y),.int .u32 (vw z)] w fun e w'=>e=.returned (.int .u32 (vw (chw x y z)))/\w'=w:=by
 go_enter func350,ntmps350
 go_wp2
 go_ret
 refine ⟨?_,rfl⟩;show Ending.returned (Value.int .u32 (bits .or .u32 (bits .and .u32 (vw x) (vw y)) (bits .and .u32 (bits .xor .u32 IntKind.u32.max (vw x)) (vw z))))=_;rw [u_not,u_and,u_and,u_or];rfl
theorem most_any (x y z:BitVec 32) (w:World):Calls prog 351 #[.int .u32 (vw x),.int .u32 (vw y),.int .u32 (vw z)] w fun e w'=>e=.returned (.int .u32 (vw (mjw x y z)))/\w'=w:=by
 go_enter func351,ntmps351
 go_wp2
 go_ret
 refine ⟨?_,rfl⟩;show Ending.returned (Value.int .u32 (bits .or .u32 (bits .or .u32 (bits .and .u32 (vw x) (vw y)) (bits .and .u32 (vw x) (vw z))) (bits .and .u32 (vw y) (vw z))))=_;rw [u_and,u_and,u_and,u_or,u_or];rfl
theorem rotl_any (x:BitVec 32) (n:Nat) (h0:0<n) (h1:n<32) (w:World):Calls prog 353 #[.int .u32 (vw x),.int .i64 (-(n:Int))] w fun e w'=>e=.returned (.int .u32 (vw (tw n x)))/\w'=w:=by
 have r4:=neg_and n h0 h1;have r5:((32:Int)-((32-n:Nat):Int))=(n:Int):=by omega
 go_enter func353,ntmps353
 go_wp2
 go_ret
 refine ⟨?_,rfl⟩;show Ending.returned (Value.int .u32 (bits .or .u32 (vw x*2 ^ (32-n) % 4294967296) (vw x / 2 ^ n)))=_;rw [e_shl,e_shr,u_or,BitVec.or_comm];rfl
theorem turned_any (x:BitVec 32) (n:Nat) (h0:0<n) (h1:n<32) (w:World):Calls prog 349 #[.int .u32 (vw x),.int .i64 (n:Int)] w fun e w'=>e=.returned (.int .u32 (vw (tw n x)))/\w'=w:=by
 go_enter func349,ntmps349
 go_wp2_with fail
 refine (rotl_any x n h0 h1 _).mono ?_;rintro e w' ⟨rfl,rfl⟩
 go_wp2
 go_ret
 exact ⟨rfl,rfl⟩
theorem word_any (x y z u:BitVec 8) (w:World):Calls prog 348 #[.int .u8 (vb x),.int .u8 (vb y),.int .u8 (vb z),.int .u8 (vb u)] w fun e w'=>e=.returned (.int .u32 (vw (wd x y z u)))/\w'=w:=by
 have hx:=vb_range x;have hy:=vb_range y;have hz:=vb_range z;have hu:=vb_range u;have ex:vb x*(16777216:Int)=vw (x.setWidth 32 <<< 24):=by rw [<-e_shl,<-u_of_b];omega
 have ey:vb y*(65536:Int)=vw (y.setWidth 32 <<< 16):=by rw [<-e_shl,<-u_of_b];omega
 have ez:vb z*(256:Int)=vw (z.setWidth 32 <<< 8):=by rw [<-e_shl,<-u_of_b];omega
 have EX:=Lib.hid ex;have EY:=Lib.hid ey;have EZ:=Lib.hid ez;clear ex ey ez
 go_enter func348,ntmps348
 go_wp2
 go_ret
 refine ⟨?_,rfl⟩;show Ending.returned (Value.int .u32 (bits .or .u32 (bits .or .u32 (bits .or .u32 (vb x*16777216) (vb y*65536)) (vb z*256)) (vb u)))=_;rw [EX.out,EY.out,EZ.out,u_of_b u,u_or,u_or,u_or];rfl
/- BlRule:
  The types of this program; the pure functions of the chapter.
-/
-- the same for this program
theorem hu8:prog.underlying 200=some (.array 8 199):=by kernel_rfl
theorem hu64:prog.underlying 247=some (.array 64 199):=by kernel_rfl
theorem huo:prog.underlying 232=some (.array 64 5):=by kernel_rfl
theorem huw:prog.underlying 199=some (.int .u32):=by kernel_rfl
theorem hub:prog.underlying 5=some (.int .u8):=by kernel_rfl
theorem hsw:(prog.info? 199).map (·.size)=some 1:=by kernel_rfl
theorem hsb:(prog.info? 5).map (·.size)=some 1:=by kernel_rfl
theorem hs8 (F:Nat->BitVec 32):(prog.info? 200).map (·.size)=some (cW 8 F).size:=by rw [cW_size];kernel_rfl
theorem hs64 (F:Nat->BitVec 32):(prog.info? 247).map (·.size)=some (cW 64 F).size:=by rw [cW_size];kernel_rfl
theorem hso (F:Nat->BitVec 8):(prog.info? 232).map (·.size)=some (cB 64 F).size:=by rw [cB_size];kernel_rfl
theorem hz8:(prog.info? 200).map (fun i=>(i.zero,i.size))=some (some (.agg (cW 8 fun _=>0)),(cW 8 fun _=>0).size):=by kernel_rfl
theorem hz64:(prog.info? 247).map (fun i=>(i.zero,i.size))=some (some (.agg (cW 64 fun _=>0)),(cW 64 fun _=>0).size):=by kernel_rfl
theorem hzo:(prog.info? 232).map (fun i=>(i.zero,i.size))=some (some (.agg (cB 64 fun _=>0)),(cB 64 fun _=>0).size):=by kernel_rfl

-- the chapter's functions
def st8 (a b c d e f g z:BitVec 32):Nat->BitVec 32
 | 0=>a | 1=>b | 2=>c | 3=>d | 4=>e | 5=>f | 6=>g | _=>z
def bigE (e:BitVec 32):BitVec 32:=tw 6 e ^^^ tw 11 e ^^^ tw 25 e
def bigA (a:BitVec 32):BitVec 32:=tw 2 a ^^^ tw 13 a ^^^ tw 22 a
def lowX (x:BitVec 32):BitVec 32:=tw 7 x ^^^ tw 18 x ^^^ x >>> 3
def lowY (y:BitVec 32):BitVec 32:=tw 17 y ^^^ tw 19 y ^^^ y >>> 10
def pP (h:Nat->BitVec 32) (nw:BitVec 32):BitVec 32:=h 7+bigE (h 4)+chw (h 4) (h 5) (h 6)+nw
def pQ (h:Nat->BitVec 32):BitVec 32:=bigA (h 0)+mjw (h 0) (h 1) (h 2)
def stepF (h:Nat->BitVec 32) (nw:BitVec 32):Nat->BitVec 32:=st8 (pP h nw+pQ h) (h 0) (h 1) (h 2) (h 3+pP h nw) (h 4) (h 5) (h 6)
def w4 (b:Nat->BitVec 8) (t:Nat):BitVec 32:=wd (b (4*t)) (b (4*t+1)) (b (4*t+2)) (b (4*t+3))
def head (b:Nat->BitVec 8):Nat->Nat->BitVec 32
 | 0=>fun _=>0
 | t+1=>upd (head b t) t (w4 b t)
def nxw (W:Nat->BitVec 32) (t:Nat):BitVec 32:=W (t-16)+lowX (W (t-15))+W (t-7)+lowY (W (t-2))
def tailF (b:Nat->BitVec 8):Nat->Nat->BitVec 32
 | 0=>head b 16
 | k+1=>upd (tailF b k) (16+k) (nxw (tailF b k) (16+k))
def spr (b:Nat->BitVec 8):Nat->BitVec 32:=tailF b 48
def tabNumsL:List Nat:=[1116352408,1899447441,3049323471,3921009573,961987163,1508970993,2453635748,2870763221,3624381080,310598401,607225278,1426881987,1925078388,2162078206,2614888103,3248222580,3835390401,4022224774,264347078,604807628,770255983,1249150122,1555081692,1996064986,2554220882,2821834349,2952996808,3210313671,3336571891,3584528711,113926993,338241895,666307205,773529912,1294757372,1396182291,1695183700,1986661051,2177026350,2456956037,2730485921,2820302411,3259730800,3345764771,3516065817,3600352804,4094571909,275423344,430227734,506948616,659060556,883997877,958139571,1322822218,1537002063,1747873779,1955562222,2024104815,2227730452,2361852424,2428436474,2756734187,3204031479,3329325298]
def num (t:Nat):BitVec 32:=BitVec.ofNat 32 (tabNumsL.getD t 0)
def vF (h:Nat->BitVec 32) (b:Nat->BitVec 8):Nat->Nat->BitVec 32
 | 0=>h
 | t+1=>stepF (vF h b t) (num t+spr b t)
def mixF (h:Nat->BitVec 32) (b:Nat->BitVec 8):Nat->BitVec 32:=fun i=>h i+vF h b 64 i
def firstF:Nat->BitVec 32:=st8 1779033703 3144134277 1013904242 2773480762 1359893119 2600822924 528734635 1541459225
/- BlStep:
  The contract of one of the sixty-four steps.
-/
set_option maxRecDepth 20000
theorem step_any (h:Nat->BitVec 32) (nw:BitVec 32) (w:World):Calls prog 345 #[.agg (cW 8 h),wv nw] w fun e w'=>∃ v,e=.returned v/\v=.agg (cW 8 (stepF h nw))/\Bw w w':=by
 refine Ze func345 ntmps345 ?_;have u:=Br w;refine Qd (Qe ?_);refine lg_box rfl rfl (hs8 _) rfl rfl (by decide) fun b1 w1 n1=>?_;have ⟨r1,k1,z1,_⟩:=n1.f;have u:Bw w w1:=u.trans (n1.below.mono u.size);refine lg_alloc rfl hz8 rfl rfl (by decide) fun b2 w2 n2=>?_;have r1:=n2.keep r1;have ⟨r2,k2,z2,_⟩:=n2.f;have u:Bw w w2:=u.trans (n2.below.mono u.size);refine Zn [1,2,4] ?_;refine Qd (cg_still (by kernel_rfl) (by kernel_rfl) fun W3 hW3=>?_);have r1:=(show RowAt W3 b1 _ _ from by subst hW3;exact r1);have r2:=(show RowAt W3 b2 _ _ from by subst hW3;exact r2);have zW3:W3.heap.size=w2.heap.size:=by subst hW3;rfl
 have u:Bw w W3:=by subst hW3;exact u.drew
 clear hW3;refine Zsa (y_ixa (j:=0) hu8 hsw (by omega) rfl rfl rfl) ?_;refine Zsa (y_cell r1 (cW_get (by omega)) huw rfl rfl) ?_;refine Zsa (y_ixa (j:=1) hu8 hsw (by omega) rfl rfl rfl) ?_;refine Zsa (y_cell r1 (cW_get (by omega)) huw rfl rfl) ?_;refine Zsa (y_ixa (j:=2) hu8 hsw (by omega) rfl rfl rfl) ?_;refine Zsa (y_cell r1 (cW_get (by omega)) huw rfl rfl) ?_;refine Zsa (y_ixa (j:=3) hu8 hsw (by omega) rfl rfl rfl) ?_;refine Zsa (y_cell r1 (cW_get (by omega)) huw rfl rfl) ?_;refine Zsa (y_ixa (j:=4) hu8 hsw (by omega) rfl rfl rfl) ?_;refine Zsa (y_cell r1 (cW_get (by omega)) huw rfl rfl) ?_;refine Zsa (y_ixa (j:=5) hu8 hsw (by omega) rfl rfl rfl) ?_;refine Zsa (y_cell r1 (cW_get (by omega)) huw rfl rfl) ?_;refine Zsa (y_ixa (j:=6) hu8 hsw (by omega) rfl rfl rfl) ?_;refine Zsa (y_cell r1 (cW_get (by omega)) huw rfl rfl) ?_;refine Zsa (y_ixa (j:=7) hu8 hsw (by omega) rfl rfl rfl) ?_;refine Zsa (y_cell r1 (cW_get (by omega)) huw rfl rfl) ?_;refine Zsa y_assign ?_;refine Zsa y_assign ?_;refine Zsa y_assign ?_;refine Zsa y_assign ?_;refine Zsa y_assign ?_;refine Zsa y_assign ?_;refine Zsa y_assign ?_;refine Zsa y_assign ?_;refine Zsn [1,4,5,6,7,8,9,10,11,12] ?_;refine Qd (Qe ?_);refine Xa 2 ?_;refine Za (Qp (turned_any _ 6 (by decide) (by decide) _) (by kernel_rfl) rfl rfl) ?_;refine ZM ?_;refine Za (Qp (turned_any _ 11 (by decide) (by decide) _) (by kernel_rfl) rfl rfl) ?_;refine Za y_xor ?_;refine ZM ?_;refine Za (Qp (turned_any _ 25 (by decide) (by decide) _) (by kernel_rfl) rfl rfl) ?_;refine Za y_xor ?_;refine Za y_add ?_;refine Xa 3 ?_;refine Za (Qp (chosen_any _ _ _ _)) ?_;refine Za y_add ?_;refine ZM ?_;refine Za y_add ?_;refine ZAn [4,5,6,7,8,9,10,11,13] ?_;refine Qd (Qe ?_);refine ZM ?_;refine Za (Qp (turned_any _ 2 (by decide) (by decide) _) (by kernel_rfl) rfl rfl) ?_;refine ZM ?_;refine Za (Qp (turned_any _ 13 (by decide) (by decide) _) (by kernel_rfl) rfl rfl) ?_;refine Za y_xor ?_;refine ZM ?_;refine Za (Qp (turned_any _ 22 (by decide) (by decide) _) (by kernel_rfl) rfl rfl) ?_;refine Za y_xor ?_;refine Xa 3 ?_;refine Za (Qp (most_any _ _ _ _)) ?_;refine Za y_add ?_;refine ZAn [4,5,6,7,8,9,10,11,13,14] ?_;refine Qd (Qe ?_);refine Xa 2 ?_;refine Za y_add ?_;refine Xa 5 ?_;refine Za y_add ?_;refine Xa 3 ?_;refine Za (y_build (cs:=cW 8 (stepF h nw))) ?_;refine lg_store_row r2 rfl rfl rfl (hs8 _) (by rw [cW_size,cW_size]) (cW_one _ _) rfl rfl fun w4 sw4=>?_;have r1:=sw4.kp r1;have ⟨r2,zw4⟩:=sw4.f;have u:Bw w w4:=u.trans sw4.bl;refine Zn [4] ?_;exact ret_row rfl rfl r2 hu8 (hs8 _) ⟨_,rfl,rfl,u⟩
/- BlSpread:
  The contract of Spread.
-/
set_option maxRecDepth 20000
theorem spread_any (b:Nat->BitVec 8) (w:World):Calls prog 344 #[.agg (cB 64 b)] w fun e w'=>∃ v,e=.returned v/\v=.agg (cW 64 (spr b))/\Bw w w':=by
 refine Ze func344 ntmps344 ?_;have u:=Br w;refine Qd (Qe ?_);refine lg_box rfl rfl (hso _) rfl rfl (by decide) fun b1 w1 n1=>?_;have ⟨r1,k1,z1,_⟩:=n1.f;have u:Bw w w1:=u.trans (n1.below.mono u.size);refine lg_alloc rfl hz64 rfl rfl (by decide) fun b2 w2 n2=>?_;have r1:=n2.keep r1;have ⟨r2,k2,z2,_⟩:=n2.f;have u:Bw w w2:=u.trans (n2.below.mono u.size);refine Zn [1,2] ?_;refine Qd (Qe ?_);refine lg_alloc rfl hz64 rfl rfl (by decide) fun b3 w3 n3=>?_;have r1:=n3.keep r1;have r2:=n3.keep r2;have ⟨r3,k3,z3,_⟩:=n3.f;have u:Bw w w3:=u.trans (n3.below.mono u.size);refine Zn [1,2,3] ?_;refine Qd<|Qd (Qe ?_)
 refine Zan (y_move (v:=iv 0)) [1,2,3,8] ?_;refine Qj fun a ha=>?_;refine cg_loop (fun t a v=>Holds 76 [(1,pv b1 0),(2,pv b2 0),(3,pv b3 0),(8,iv t)] a/\RowAt v b1 232 (cB 64 b)/\RowAt v b2 247 (cW 64 fun _=>0)/\RowAt v b3 247 (cW 64 (head b t))/\v.heap.size=w3.heap.size/\Bw w v) 16 ⟨ha.keep kz,r1,r2,r3,rfl,u⟩ ?_;clear a ha;rintro t a v ht ⟨ha,r1,r2,r3,zv,u⟩;refine cg_at ha ?_;clear a ha;refine Qd (Qe ?_);refine Zan (y_ilss (t) (16)) [1,2,3,8,9] ?_;refine Qd (cg_cond (decide (t<16)) rfl (fun hlt=>?_) (fun hge=>?_))
 ·have hlt:t<16:=of_decide_eq_true hlt;refine Zki [1,2,3,8] ?_;refine Qd (Qj ?_);refine Qd (Qe ?_);refine Xn 2 [1,2,3,4,8] ?_;refine cg_tail 22 (by kernel_rfl) (by kernel_rfl) fun W4 hW4=>?_;have r1:=(show RowAt W4 b1 _ _ from by subst hW4;exact r1);have r2:=(show RowAt W4 b2 _ _ from by subst hW4;exact r2);have r3:=(show RowAt W4 b3 _ _ from by subst hW4;exact r3);have zW4:W4.heap.size=v.heap.size:=by subst hW4;rfl
  have u:Bw w W4:=by subst hW4;exact u.drew
  clear hW4;simp only [List.take_succ_cons,List.take_zero,List.drop_succ_cons,List.drop_zero];refine Zsa y_move ?_;refine Zsa y_move ?_;refine Zsa (y_imul (4) (t) (by omega) rfl rfl rfl) ?_;refine Zsa (y_ixa (j:=4*t) huo hsb (by omega) rfl rfl rfl) ?_;refine Zsa (y_cell r1 (cB_get (by omega)) hub rfl rfl) ?_;refine Zsa y_move ?_;refine Zsa (y_imul (4) (t) (by omega) rfl rfl rfl) ?_;refine Zsa (y_iadd (4*t) (1) (by omega) rfl rfl rfl) ?_;refine Zsa (y_ixa (j:=(4*t)+1) huo hsb (by omega) rfl rfl rfl) ?_;refine Zsa (y_cell r1 (cB_get (by omega)) hub rfl rfl) ?_;refine Zsa y_move ?_;refine Zsa (y_imul (4) (t) (by omega) rfl rfl rfl) ?_;refine Zsa (y_iadd (4*t) (2) (by omega) rfl rfl rfl) ?_;refine Zsa (y_ixa (j:=(4*t)+2) huo hsb (by omega) rfl rfl rfl) ?_;refine Zsa (y_cell r1 (cB_get (by omega)) hub rfl rfl) ?_;refine Zsa y_move ?_;refine Zsa (y_imul (4) (t) (by omega) rfl rfl rfl) ?_;refine Zsa (y_iadd (4*t) (3) (by omega) rfl rfl rfl) ?_;refine Zsa (y_ixa (j:=(4*t)+3) huo hsb (by omega) rfl rfl rfl) ?_;refine Zsa (y_cell r1 (cB_get (by omega)) hub rfl rfl) ?_;refine Zsa (Qp (word_any _ _ _ _ _)) ?_;refine Zsa (y_ixa (j:=t) hu64 hsw (by omega) rfl rfl rfl) ?_;refine sg_lg ?_;refine lg_store r3 (by rw [cW_size];omega) rfl rfl rfl rfl hsw rfl rfl fun w5 sw5=>?_;rw [cW_set] at sw5;have r1:=sw5.kp r1;have r2:=sw5.kp r2;have ⟨r3,zw5⟩:=sw5.f;have u:Bw w w5:=u.trans sw5.bl;refine Qk (nxb (E':=[(1,_),(2,_),(3,_),(8,_)]) kz ?_);refine Qe<|Za (y_iadd (t) (1) (by omega) rfl rfl rfl) ?_
  refine ZM ?_;exact Qk fun a ha=>(show t<16/\_ from ⟨hlt,ha.keep kz,r1,r2,r3,by omega,u⟩)
 have hge:=of_decide_eq_false hge;obtain rfl:t=16:=by omega
 refine cg_exit (ex_out ?_);refine Nx [1,2,3] ?_;refine Qd<|Qd (Qe ?_)
 refine Zan (y_assign (v:=iv 16)) [1,2,3,5] ?_;clear ht hge;have zq:=zv;clear zv;refine Qj fun a ha=>?_;refine cg_loop (fun k a v=>Holds 76 [(1,pv b1 0),(2,pv b2 0),(3,pv b3 0),(5,iv (16+k))] a/\RowAt v b1 232 (cB 64 b)/\RowAt v b2 247 (cW 64 fun _=>0)/\RowAt v b3 247 (cW 64 (tailF b k))/\v.heap.size=w3.heap.size/\Bw w v) 48 ⟨ha.keep kz,r1,r2,r3,zq,u⟩ ?_;clear a ha;rintro k a v ht ⟨ha,r1,r2,r3,zv,u⟩;refine cg_at ha ?_;clear a ha;refine Qd<|Qd (Qe ?_)
 refine ZM ?_;refine Zan (y_ilss (16+k) (64)) [1,2,3,5,35] ?_;refine cg_cond (decide (16+k<64)) rfl (fun hlt=>?_) (fun hge=>?_)
 ·have hlt:16+k<64:=of_decide_eq_true hlt;refine Zki [1,2,3,5] ?_;refine Qd (Qj ?_);refine Qd (cg_still (by kernel_rfl) (by kernel_rfl) fun W4 hW4=>?_);have r1:=(show RowAt W4 b1 _ _ from by subst hW4;exact r1);have r2:=(show RowAt W4 b2 _ _ from by subst hW4;exact r2);have r3:=(show RowAt W4 b3 _ _ from by subst hW4;exact r3);have zW4:W4.heap.size=v.heap.size:=by subst hW4;rfl
  have u:Bw w W4:=by subst hW4;exact u.drew
  clear hW4;refine Zsa y_move ?_;refine Zsa (y_isub (16+k) (15) (by omega) (by omega) rfl rfl rfl) ?_;refine Zsa (y_ixa (j:=(16+k)-15) hu64 hsw (by omega) rfl rfl rfl) ?_;refine Zsa (y_cell r3 (cW_get (by omega)) huw rfl rfl) ?_;refine Zsa y_move ?_;refine Zsa (y_isub (16+k) (2) (by omega) (by omega) rfl rfl rfl) ?_;refine Zsa (y_ixa (j:=(16+k)-2) hu64 hsw (by omega) rfl rfl rfl) ?_;refine Zsa (y_cell r3 (cW_get (by omega)) huw rfl rfl) ?_;refine Zsa y_assign ?_;refine Zsa y_assign ?_;refine Zsn [1,2,3,5,6,7] ?_;refine cg_tail 29 (by kernel_rfl) (by kernel_rfl) fun W5 hW5=>?_;have r1:=(show RowAt W5 b1 _ _ from by subst hW5;exact r1);have r2:=(show RowAt W5 b2 _ _ from by subst hW5;exact r2);have r3:=(show RowAt W5 b3 _ _ from by subst hW5;exact r3);have zW5:W5.heap.size=W4.heap.size:=by subst hW5;rfl
  have u:Bw w W5:=by subst hW5;exact u.drew
  clear hW5;simp only [List.take_succ_cons,List.take_zero,List.drop_succ_cons,List.drop_zero];refine Zsa y_move ?_;refine Zsa y_move ?_;refine Zsa (y_isub (16+k) (16) (by omega) (by omega) rfl rfl rfl) ?_;refine Zsa (y_ixa (j:=(16+k)-16) hu64 hsw (by omega) rfl rfl rfl) ?_;refine Zsa (y_cell r3 (cW_get (by omega)) huw rfl rfl) ?_;refine Zsa y_move ?_;refine Zsa (Qp (turned_any _ 7 (by decide) (by decide) _) (by kernel_rfl) rfl rfl) ?_;refine Zsa y_move ?_;refine Zsa (Qp (turned_any _ 18 (by decide) (by decide) _) (by kernel_rfl) rfl rfl) ?_;refine Zsa y_xor ?_;refine Zsa y_move ?_;refine Zsa (y_shr (3) .u64 (by first | decide | omega) rfl rfl rfl) ?_;refine Zsa y_xor ?_;refine Zsa y_add ?_;refine Zsa y_move ?_;refine Zsa (y_isub (16+k) (7) (by omega) (by omega) rfl rfl rfl) ?_;refine Zsa (y_ixa (j:=(16+k)-7) hu64 hsw (by omega) rfl rfl rfl) ?_;refine Zsa (y_cell r3 (cW_get (by omega)) huw rfl rfl) ?_;refine Zsa y_add ?_;refine Zsa y_move ?_;refine Zsa (Qp (turned_any _ 17 (by decide) (by decide) _) (by kernel_rfl) rfl rfl) ?_;refine Zsa y_move ?_;refine Zsa (Qp (turned_any _ 19 (by decide) (by decide) _) (by kernel_rfl) rfl rfl) ?_;refine Zsa y_xor ?_;refine Zsa y_move ?_;refine Zsa (y_shr (10) .u64 (by first | decide | omega) rfl rfl rfl) ?_;refine Zsa y_xor ?_;refine Zsa y_add ?_;refine Zsa (y_ixa (j:=16+k) hu64 hsw (by omega) rfl rfl rfl) ?_;refine sg_lg ?_;refine lg_store r3 (by rw [cW_size];omega) rfl rfl rfl rfl hsw rfl rfl fun w6 sw6=>?_;rw [cW_set] at sw6;have r1:=sw6.kp r1;have r2:=sw6.kp r2;have ⟨r3,zw6⟩:=sw6.f;have u:Bw w w6:=u.trans sw6.bl;refine Qk (nxb (E':=[(1,_),(2,_),(3,_),(5,_)]) kz ?_);refine Qe<|ZM ?_
  refine Za (y_iadd (16+k) (1) (by omega) rfl rfl rfl) ?_;refine ZA ?_;exact Qk fun a ha=>(show k<48/\_ from ⟨by omega,ha.keep kz,r1,r2,r3,by omega,u⟩)
 have hge:=of_decide_eq_false hge;obtain rfl:k=48:=by omega
 refine cg_exit (ex_out ?_);refine Nx [2,3] ?_;refine Qd (Qe ?_);refine Za (y_row r3 hu64 (hs64 _)) ?_;refine lg_store_row r2 rfl rfl rfl (hs64 _) (by rw [cW_size,cW_size]) (cW_one _ _) rfl rfl fun w4 sw4=>?_;have r1:=sw4.kp r1;have r2:=sw4.row;have r3:=sw4.kp r3;have zw4:=sw4.size;have u:Bw w w4:=u.trans sw4.bl;refine Zn [2] ?_;exact ret_row rfl rfl r2 hu64 (hs64 _) ⟨_,rfl,rfl,u⟩
/- BlMix:
  The contract of Mix.
-/
set_option maxRecDepth 20000
def gF (h V:Nat->BitVec 32):Nat->Nat->BitVec 32
 | 0=>h
 | i+1=>upd (gF h V i) i (gF h V i i+V i)
theorem gF_eq (h V:Nat->BitVec 32):∀ i,i<8->gF h V 8 i=(fun i=>h i+V i) i:=by
 have key:∀ n i,gF h V n i=if i<n then h i+V i else h i:=by
  intro n;induction n with
  | zero=>intro i;simp [gF]
  | succ n ih =>
   intro i;simp only [gF,upd,ih];by_cases e:i=n
   ·subst e;simp
   by_cases l:i<n
   ·simp [e,l,show i<n+1 by omega]
   simp [e,l,show ¬i<n+1 by omega]
 intro i hi;rw [key,if_pos hi]
theorem mix_any (h:Nat->BitVec 32) (b:Nat->BitVec 8) (w:World) {tg:TypeId} (rg:RowAt w 2 tg (cW 64 num)):Calls prog 332 #[.agg (cW 8 h),.agg (cB 64 b)] w fun e w'=>∃ v,e=.returned v/\v=.agg (cW 8 (mixF h b))/\Bw w w':=by
 refine Ze func332 ntmps332 ?_;have u:=Br w;have kg:=rg.lt;refine Qd (Qe ?_);refine lg_box rfl rfl (hs8 _) rfl rfl (by decide) fun b1 w1 n1=>?_;have rg:=n1.keep rg;have ⟨r1,k1,z1,_⟩:=n1.f;have u:Bw w w1:=u.trans (n1.below.mono u.size);refine lg_box rfl rfl (hso _) rfl rfl (by decide) fun b2 w2 n2=>?_;have rg:=n2.keep rg;have r1:=n2.keep r1;have ⟨r2,k2,z2,_⟩:=n2.f;have u:Bw w w2:=u.trans (n2.below.mono u.size);refine lg_alloc rfl hz8 rfl rfl (by decide) fun b3 w3 n3=>?_;have rg:=n3.keep rg;have r1:=n3.keep r1;have r2:=n3.keep r2;have ⟨r3,k3,z3,_⟩:=n3.f;have u:Bw w w3:=u.trans (n3.below.mono u.size);refine Zn [2,3,4] ?_;refine Qd (Qe ?_);refine Za (y_row r1 hu8 (hs8 _)) ?_;refine lg_alloc rfl hz8 rfl rfl (by decide) fun b4 w4 n4=>?_;have rg:=n4.keep rg;have r1:=n4.keep r1;have r2:=n4.keep r2;have r3:=n4.keep r3;have ⟨r4,k4,z4,_⟩:=n4.f;have u:Bw w w4:=u.trans (n4.below.mono u.size);refine lg_store_row r4 rfl rfl rfl (hs8 _) (by simp only [cW_size]) (cW_one _ _) rfl rfl fun w5 sw5=>?_;have rg:=sw5.kp rg;have r1:=sw5.kp r1;have r2:=sw5.kp r2;have r3:=sw5.kp r3;have ⟨r4,zw5⟩:=sw5.f;have u:Bw w w5:=u.trans sw5.bl;refine Zn [2,3,4,5] ?_;refine Qd<|Qd (Qe ?_)
 refine Za (y_row r2 huo (hso _)) ?_;refine lg_call (spread_any _ _) (by kernel_rfl) rfl rfl rfl rfl (by decide) ?_;rintro _ w6 ⟨rfl,hw6⟩;have rg:=rg.below hw6 rg.lt;have r1:=r1.below hw6 r1.lt;have r2:=r2.below hw6 r2.lt;have r3:=r3.below hw6 r3.lt;have r4:=r4.below hw6 r4.lt;have zw6:=hw6.size;have u:Bw w w6:=u.trans (hw6.mono u.size);refine Zan (y_move (v:=iv 0)) [2,4,5,11,12] ?_;refine Qj fun a ha=>?_;refine cg_loop (fun t a v=>Holds 37 [(2,pv b1 0),(4,pv b3 0),(5,pv b4 0),(11,.agg (cW 64 (spr b))),(12,iv t)] a/\RowAt v 2 tg (cW 64 num)/\RowAt v b1 200 (cW 8 (h))/\RowAt v b3 200 (cW 8 fun _=>0)/\RowAt v b4 200 (cW 8 (vF h b t))/\w6.heap.size<=v.heap.size/\Bw w v) 64 ⟨ha.keep kz,rg,r1,r3,r4,Nat.le_refl _,u⟩ ?_;clear a ha;rintro t a v ht ⟨ha,rg,r1,r3,r4,zv,u⟩;refine cg_at ha ?_;clear a ha;refine Qd (Qe ?_);refine Zan (y_ilss (t) (64)) [2,4,5,11,12,13] ?_;refine Qd (cg_cond (decide (t<64)) rfl (fun hlt=>?_) (fun hge=>?_))
 ·have hlt:t<64:=of_decide_eq_true hlt;refine Zki [2,4,5,11,12] ?_;refine Qd (Qj ?_);refine Qd (Qe ?_);refine ZM ?_;refine Za (y_idx (j:=t) hu64 hsw huw (by omega) (cW_get (by omega)) rfl rfl rfl) ?_;refine Xn 2 [2,4,5,6,7,11,12] ?_;refine cg_tail 6 (by kernel_rfl) (by kernel_rfl) fun W7 hW7=>?_;have rg:=(show RowAt W7 2 _ _ from by subst hW7;exact rg);have r1:=(show RowAt W7 b1 _ _ from by subst hW7;exact r1);have r3:=(show RowAt W7 b3 _ _ from by subst hW7;exact r3);have r4:=(show RowAt W7 b4 _ _ from by subst hW7;exact r4);have zW7:W7.heap.size=v.heap.size:=by subst hW7;rfl
  have u:Bw w W7:=by subst hW7;exact u.drew
  clear hW7;simp only [List.take_succ_cons,List.take_zero,List.drop_succ_cons,List.drop_zero];refine Zsa (y_row r4 hu8 (hs8 _)) ?_;refine Zsa y_move ?_;refine Zsa (y_ixa (j:=t) hu64 hsw (by omega) rfl rfl rfl) ?_;refine Zsa (y_cell rg (cW_get (by omega)) huw rfl rfl) ?_;refine Zsa y_move ?_;refine Zsa y_add ?_;refine sg_lg ?_;refine lg_call (step_any _ _ _) (by kernel_rfl) rfl rfl rfl rfl (by decide) ?_;rintro _ w8 ⟨rfl,hw8⟩;have rg:=rg.below hw8 rg.lt;have r1:=r1.below hw8 r1.lt;have r3:=r3.below hw8 r3.lt;have r4:=r4.below hw8 r4.lt;have zw8:=hw8.size;have u:Bw w w8:=u.trans (hw8.mono u.size);refine lg_store_row r4 rfl rfl rfl (hs8 _) (by simp only [cW_size]) (cW_one _ _) rfl rfl fun w9 sw9=>?_;have rg:=sw9.kp rg;have r1:=sw9.kp r1;have r3:=sw9.kp r3;have ⟨r4,zw9⟩:=sw9.f;have u:Bw w w9:=u.trans sw9.bl;refine Qk (nxb (E':=[(2,_),(4,_),(5,_),(11,_),(12,_)]) kz ?_);refine Qe<|Za (y_iadd (t) (1) (by omega) rfl rfl rfl) ?_
  refine ZM ?_;exact Qk fun a ha=>(show t<64/\_ from ⟨hlt,ha.keep kz,rg,r1,r3,r4,by omega,u⟩)
 have hge:=of_decide_eq_false hge;obtain rfl:t=64:=by omega
 refine cg_exit (ex_out ?_);refine Nx [2,4,5] ?_;refine Qd<|Qd (Qe ?_)
 refine Zan (y_move (v:=iv 0)) [2,4,5,24] ?_;clear ht hge;refine Qj fun a ha=>?_;refine cg_loop (fun i a v=>Holds 37 [(2,pv b1 0),(4,pv b3 0),(5,pv b4 0),(24,iv i)] a/\RowAt v 2 tg (cW 64 num)/\RowAt v b1 200 (cW 8 (gF h (vF h b 64) i))/\RowAt v b3 200 (cW 8 fun _=>0)/\RowAt v b4 200 (cW 8 (vF h b 64))/\w6.heap.size<=v.heap.size/\Bw w v) 8 ⟨ha.keep kz,rg,r1,r3,r4,zv,u⟩ ?_;clear a ha;rintro i a v ht ⟨ha,rg,r1,r3,r4,zv,u⟩;refine cg_at ha ?_;clear a ha;refine Qd (Qe ?_);refine Zan (y_ilss (i) (8)) [2,4,5,24,25] ?_;refine Qd (cg_cond (decide (i<8)) rfl (fun hlt=>?_) (fun hge=>?_))
 ·have hlt:i<8:=of_decide_eq_true hlt;refine Zki [2,4,5,24] ?_;refine Qd (Qj ?_);refine Qd (Qe ?_);refine Xn 2 [2,4,5,8,24] ?_;refine cg_tail 8 (by kernel_rfl) (by kernel_rfl) fun W7 hW7=>?_;have rg:=(show RowAt W7 2 _ _ from by subst hW7;exact rg);have r1:=(show RowAt W7 b1 _ _ from by subst hW7;exact r1);have r3:=(show RowAt W7 b3 _ _ from by subst hW7;exact r3);have r4:=(show RowAt W7 b4 _ _ from by subst hW7;exact r4);have zW7:W7.heap.size=v.heap.size:=by subst hW7;rfl
  have u:Bw w W7:=by subst hW7;exact u.drew
  clear hW7;simp only [List.take_succ_cons,List.take_zero,List.drop_succ_cons,List.drop_zero];refine Zsa y_move ?_;refine Zsa (y_ixa (j:=i) hu8 hsw (by omega) rfl rfl rfl) ?_;refine Zsa (y_cell r1 (cW_get (by omega)) huw rfl rfl) ?_;refine Zsa y_move ?_;refine Zsa (y_ixa (j:=i) hu8 hsw (by omega) rfl rfl rfl) ?_;refine Zsa (y_cell r4 (cW_get (by omega)) huw rfl rfl) ?_;refine Zsa y_add ?_;refine Zsa (y_ixa (j:=i) hu8 hsw (by omega) rfl rfl rfl) ?_;refine sg_lg ?_;refine lg_store r1 (by rw [cW_size];omega) rfl rfl rfl rfl hsw rfl rfl fun w8 sw8=>?_;rw [cW_set] at sw8;have rg:=sw8.kp rg;have r1:=sw8.row;have r3:=sw8.kp r3;have r4:=sw8.kp r4;have zw8:=sw8.size;have u:Bw w w8:=u.trans sw8.bl;refine Qk (nxb (E':=[(2,_),(4,_),(5,_),(24,_)]) kz ?_);refine Qe<|Za (y_iadd (i) (1) (by omega) rfl rfl rfl) ?_
  refine ZM ?_;exact Qk fun a ha=>(show i<8/\_ from ⟨hlt,ha.keep kz,rg,r1,r3,r4,by omega,u⟩)
 have hge:=of_decide_eq_false hge;obtain rfl:i=8:=by omega
 refine cg_exit (ex_out ?_);refine Nx [2,4] ?_;refine Qd (Qe ?_);refine Za (y_row r1 hu8 (hs8 _)) ?_;refine lg_store_row r3 rfl rfl rfl (hs8 _) (by simp only [cW_size]) (cW_one _ _) rfl rfl fun w7 sw7=>?_;have rg:=sw7.kp rg;have r1:=sw7.kp r1;have r3:=sw7.row;have r4:=sw7.kp r4;have zw7:=sw7.size;have u:Bw w w7:=u.trans sw7.bl;refine Zn [4] ?_;rw [cW_ext (gF_eq h (vF h b 64))] at r3;exact ret_row rfl rfl r3 hu8 (hs8 _) ⟨_,rfl,rfl,u⟩
/- BlMore:
  More facts on the types of this program; words of four octets.
-/
theorem g8:prog.eqGuardType prog.depth 200=false:=by kernel_rfl
theorem y_wb {E:Env} {o:Oper} {w:World} {x:Operand} {X:BitVec 32} (ho:o.op=.convert 199 5 x:=by rfl) (hx:val E x=some (wv X):=by rfl):Yields prog E o w (ov (X.setWidth 8)):=by
 have h:=y_conv_u (w:=w) huw hub ho hx;have e:IntKind.u8.wrap (vw X)=vb (X.setWidth 8):=by
  rw [wrap_u8];unfold vw vb;rw [BitVec.toNat_setWidth];omega
 rw [e] at h;exact h
/- BlRef:
  The contracts of First, and of the answers of the document.
-/
set_option maxRecDepth 20000
theorem first_any (w:World):Calls prog 307 #[] w fun e w'=>∃ v,e=.returned v/\v=.agg (cW 8 firstF)/\Bw w w':=by
 refine Ze func307 ntmps307 ?_;have u:=Br w;refine Qd (Qe ?_);refine lg_alloc rfl hz8 rfl rfl (by decide) fun b1 w1 n1=>?_;have ⟨r1,k1,z1,_⟩:=n1.f;have u:Bw w w1:=u.trans (n1.below.mono u.size);refine Zn [0] ?_;refine Qd (Qe ?_);refine Za (y_build (cs:=cW 8 firstF)) ?_;refine lg_store_row r1 rfl rfl rfl (hs8 _) (by simp only [cW_size]) (cW_one _ _) rfl rfl fun w2 sw2=>?_;have ⟨r1,zw2⟩:=sw2.f;have u:Bw w w2:=u.trans sw2.bl;refine Zn [0] ?_;exact ret_row rfl rfl r1 hu8 (hs8 _) ⟨_,rfl,rfl,u⟩
end Go.Proofs.YtjjdcnkbibkmkaaGreatDoor
