/-
  KitB: BlSmall, BlRule, BlStep, BlSpread, BlMix, BlMore, BlRef.
-/
import Derived.Test.YtfdmhdnlmndhdaaGreatDoorKitA
import Derived.Lib.Hide
namespace Go.Proofs.YtfdmhdnlmndhdaaGreatDoor
open Go.ChangeShapes Go.WideShapes Go.ChangeAt Go.RowKit
set_option linter.unusedVariables false

/- BlSmall:
  Contracts of block's small functions, and of the document's, on any words.
-/
/-- A word whose lowest n bits go to the top. -/
def tw (n:Nat) (x:BitVec 32):BitVec 32:=x >>> n ||| x <<< (32-n)
def chw (e f g:BitVec 32):BitVec 32:=e &&& f ||| ~~~e &&& g
def mjw (a b c:BitVec 32):BitVec 32:=a &&& b ||| a &&& c ||| b &&& c
def wd (i j k l:BitVec 8):BitVec 32:=i.setWidth 32 <<< 24 ||| j.setWidth 32 <<< 16 ||| k.setWidth 32 <<< 8 ||| l.setWidth 32

theorem chosen_any (x y z:BitVec 32) (w:World):Calls Tryz.prog 244 #[.int .u32 (vw x),.int .u32 (vw y),.int .u32 (vw z)] w fun e w'=>e=.returned (.int .u32 (vw (chw x y z)))∧w'=w:=by
 go_enter Tryz.func244,Tryz.ntmps244
 go_wp2
 go_ret
 refine ⟨?_,rfl⟩
 show Ending.returned (Value.int .u32 (bits .or .u32 (bits .and .u32 (vw x) (vw y)) (bits .and .u32 (bits .xor .u32 IntKind.u32.max (vw x)) (vw z))))=_
 rw [u_not,u_and,u_and,u_or]
 rfl
theorem most_any (x y z:BitVec 32) (w:World):Calls Tryz.prog 245 #[.int .u32 (vw x),.int .u32 (vw y),.int .u32 (vw z)] w fun e w'=>e=.returned (.int .u32 (vw (mjw x y z)))∧w'=w:=by
 go_enter Tryz.func245,Tryz.ntmps245
 go_wp2
 go_ret
 refine ⟨?_,rfl⟩
 show Ending.returned (Value.int .u32 (bits .or .u32 (bits .or .u32 (bits .and .u32 (vw x) (vw y)) (bits .and .u32 (vw x) (vw z))) (bits .and .u32 (vw y) (vw z))))=_
 rw [u_and,u_and,u_and,u_or,u_or]
 rfl
theorem rotl_any (x:BitVec 32) (n:Nat) (h0:0<n) (h1:n<32) (w:World):Calls Tryz.prog 248 #[.int .u32 (vw x),.int .i64 (-(n:Int))] w fun e w'=>e=.returned (.int .u32 (vw (tw n x)))∧w'=w:=by
 have r4:=neg_and n h0 h1
 have r5:((32:Int)-((32-n:Nat):Int))=(n:Int):=by omega
 go_enter Tryz.func248,Tryz.ntmps248
 go_wp2
 go_ret
 refine ⟨?_,rfl⟩
 show Ending.returned (Value.int .u32 (bits .or .u32 (vw x*2 ^ (32-n) % 4294967296) (vw x / 2 ^ n)))=_
 rw [e_shl,e_shr,u_or,BitVec.or_comm]
 rfl
theorem turned_any (x:BitVec 32) (n:Nat) (h0:0<n) (h1:n<32) (w:World):Calls Tryz.prog 243 #[.int .u32 (vw x),.int .i64 (n:Int)] w fun e w'=>e=.returned (.int .u32 (vw (tw n x)))∧w'=w:=by
 go_enter Tryz.func243,Tryz.ntmps243
 go_wp2_with fail
 refine (rotl_any x n h0 h1 _).mono ?_
 rintro e w' ⟨rfl,rfl⟩
 go_wp2
 go_ret
 exact ⟨rfl,rfl⟩
theorem word_any (x y z u:BitVec 8) (w:World):Calls Tryz.prog 242 #[.int .u8 (vb x),.int .u8 (vb y),.int .u8 (vb z),.int .u8 (vb u)] w fun e w'=>e=.returned (.int .u32 (vw (wd x y z u)))∧w'=w:=by
 have hx:=vb_range x
 have hy:=vb_range y
 have hz:=vb_range z
 have hu:=vb_range u
 have ex:vb x*(16777216:Int)=vw (x.setWidth 32 <<< 24):=by rw [←e_shl,←u_of_b];omega
 have ey:vb y*(65536:Int)=vw (y.setWidth 32 <<< 16):=by rw [←e_shl,←u_of_b];omega
 have ez:vb z*(256:Int)=vw (z.setWidth 32 <<< 8):=by rw [←e_shl,←u_of_b];omega
 have EX:=Lib.hid ex
 have EY:=Lib.hid ey
 have EZ:=Lib.hid ez
 clear ex ey ez
 go_enter Tryz.func242,Tryz.ntmps242
 go_wp2
 go_ret
 refine ⟨?_,rfl⟩
 show Ending.returned (Value.int .u32 (bits .or .u32 (bits .or .u32 (bits .or .u32 (vb x*16777216) (vb y*65536)) (vb z*256)) (vb u)))=_
 rw [EX.out,EY.out,EZ.out,u_of_b u,u_or,u_or,u_or]
 rfl
theorem rturned_any (x:BitVec 32) (n:Nat) (h0:0<n) (h1:n<32) (w:World):Calls Tryz.prog 212 #[.int .u32 (vw x),.int .i64 (n:Int)] w fun e w'=>e=.returned (.int .u32 (vw (tw n x)))∧w'=w:=by
 have r5:((32:Int)-(n:Int))=((32-n:Nat):Int):=by omega
 go_enter Tryz.func212,Tryz.ntmps212
 go_wp2
 go_ret
 refine ⟨?_,rfl⟩
 show Ending.returned (Value.int .u32 (bits .or .u32 (vw x / 2 ^ n) (vw x*2 ^ (32-n) % 4294967296)))=_
 rw [e_shl,e_shr,u_or]
 rfl
theorem rmoved_any (x:BitVec 32) (n:Nat) (h0:0<n) (h1:n<32) (w:World):Calls Tryz.prog 229 #[.int .u32 (vw x),.int .i64 (n:Int)] w fun e w'=>e=.returned (.int .u32 (vw (x >>> n)))∧w'=w:=by
 go_enter Tryz.func229,Tryz.ntmps229
 go_wp2
 go_ret
 refine ⟨?_,rfl⟩
 show Ending.returned (Value.int .u32 (vw x / 2 ^ n))=_
 rw [e_shr]
/- BlRule:
  The types of this program; the pure functions of the chapter.
-/
-- the same for this program
theorem hu8:Tryz.prog.underlying 133=some (.array 8 132):=by kernel_rfl
theorem hu64:Tryz.prog.underlying 179=some (.array 64 132):=by kernel_rfl
theorem huo:Tryz.prog.underlying 154=some (.array 64 5):=by kernel_rfl
theorem huw:Tryz.prog.underlying 132=some (.int .u32):=by kernel_rfl
theorem hub:Tryz.prog.underlying 5=some (.int .u8):=by kernel_rfl
theorem hsw:(Tryz.prog.info? 132).map (·.size)=some 1:=by kernel_rfl
theorem hsb:(Tryz.prog.info? 5).map (·.size)=some 1:=by kernel_rfl
theorem hs8 (F:Nat→BitVec 32):(Tryz.prog.info? 133).map (·.size)=some (cW 8 F).size:=by rw [cW_size];kernel_rfl
theorem hs64 (F:Nat→BitVec 32):(Tryz.prog.info? 179).map (·.size)=some (cW 64 F).size:=by rw [cW_size];kernel_rfl
theorem hso (F:Nat→BitVec 8):(Tryz.prog.info? 154).map (·.size)=some (cB 64 F).size:=by rw [cB_size];kernel_rfl
theorem hz8:(Tryz.prog.info? 133).map (fun i=>(i.zero,i.size))=some (some (.agg (cW 8 fun _=>0)),(cW 8 fun _=>0).size):=by kernel_rfl
theorem hz64:(Tryz.prog.info? 179).map (fun i=>(i.zero,i.size))=some (some (.agg (cW 64 fun _=>0)),(cW 64 fun _=>0).size):=by kernel_rfl
theorem hzo:(Tryz.prog.info? 154).map (fun i=>(i.zero,i.size))=some (some (.agg (cB 64 fun _=>0)),(cB 64 fun _=>0).size):=by kernel_rfl

-- the chapter's functions
def st8 (a b c d e f g z:BitVec 32):Nat→BitVec 32
 | 0=>a | 1=>b | 2=>c | 3=>d | 4=>e | 5=>f | 6=>g | _=>z
def bigE (e:BitVec 32):BitVec 32:=tw 6 e ^^^ tw 11 e ^^^ tw 25 e
def bigA (a:BitVec 32):BitVec 32:=tw 2 a ^^^ tw 13 a ^^^ tw 22 a
def lowX (x:BitVec 32):BitVec 32:=tw 7 x ^^^ tw 18 x ^^^ x >>> 3
def lowY (y:BitVec 32):BitVec 32:=tw 17 y ^^^ tw 19 y ^^^ y >>> 10
def pP (h:Nat→BitVec 32) (nw:BitVec 32):BitVec 32:=h 7+bigE (h 4)+chw (h 4) (h 5) (h 6)+nw
def pQ (h:Nat→BitVec 32):BitVec 32:=bigA (h 0)+mjw (h 0) (h 1) (h 2)
def stepF (h:Nat→BitVec 32) (nw:BitVec 32):Nat→BitVec 32:=st8 (pP h nw+pQ h) (h 0) (h 1) (h 2) (h 3+pP h nw) (h 4) (h 5) (h 6)
def w4 (b:Nat→BitVec 8) (t:Nat):BitVec 32:=wd (b (4*t)) (b (4*t+1)) (b (4*t+2)) (b (4*t+3))
def head (b:Nat→BitVec 8):Nat→Nat→BitVec 32
 | 0=>fun _=>0
 | t+1=>upd (head b t) t (w4 b t)
def nxw (W:Nat→BitVec 32) (t:Nat):BitVec 32:=W (t-16)+lowX (W (t-15))+W (t-7)+lowY (W (t-2))
def tailF (b:Nat→BitVec 8):Nat→Nat→BitVec 32
 | 0=>head b 16
 | k+1=>upd (tailF b k) (16+k) (nxw (tailF b k) (16+k))
def spr (b:Nat→BitVec 8):Nat→BitVec 32:=tailF b 48
def tabNumsL:List Nat:=[1116352408,1899447441,3049323471,3921009573,961987163,1508970993,2453635748,2870763221,3624381080,310598401,607225278,1426881987,1925078388,2162078206,2614888103,3248222580,3835390401,4022224774,264347078,604807628,770255983,1249150122,1555081692,1996064986,2554220882,2821834349,2952996808,3210313671,3336571891,3584528711,113926993,338241895,666307205,773529912,1294757372,1396182291,1695183700,1986661051,2177026350,2456956037,2730485921,2820302411,3259730800,3345764771,3516065817,3600352804,4094571909,275423344,430227734,506948616,659060556,883997877,958139571,1322822218,1537002063,1747873779,1955562222,2024104815,2227730452,2361852424,2428436474,2756734187,3204031479,3329325298]
def num (t:Nat):BitVec 32:=BitVec.ofNat 32 (tabNumsL.getD t 0)
def vF (h:Nat→BitVec 32) (b:Nat→BitVec 8):Nat→Nat→BitVec 32
 | 0=>h
 | t+1=>stepF (vF h b t) (num t+spr b t)
def mixF (h:Nat→BitVec 32) (b:Nat→BitVec 8):Nat→BitVec 32:=fun i=>h i+vF h b 64 i
def firstF:Nat→BitVec 32:=st8 1779033703 3144134277 1013904242 2773480762 1359893119 2600822924 528734635 1541459225
/- BlStep:
  The contract of one of the sixty-four steps.
-/
set_option maxRecDepth 20000
theorem step_any (h:Nat→BitVec 32) (nw:BitVec 32) (w:World):Calls Tryz.prog 236 #[.agg (cW 8 h),wv nw] w fun e w'=>∃ v,e=.returned v∧v=.agg (cW 8 (stepF h nw))∧Below w.heap.size w w':=by
 refine Qf (n:=74) Tryz.func236 rfl Tryz.ntmps236 (by simp) ?_
 show CG _ _ _ [(0,.agg (cW 8 h)),(1,wv nw)] _ _
 have u:=Below.refl w.heap.size w
 refine Qd (Qe ?_)
 refine lg_box rfl rfl (hs8 _) rfl rfl (by decide) fun b1 w1 n1=>?_
 have r1:=n1.row
 have k1:=n1.blk
 have z1:=n1.size
 have u:Below w.heap.size w w1:=u.trans (n1.below.mono u.size)
 refine lg_alloc rfl hz8 rfl rfl (by decide) fun b2 w2 n2=>?_
 have r1:=n2.keep r1
 have r2:=n2.row
 have k2:=n2.blk
 have z2:=n2.size
 have u:Below w.heap.size w w2:=u.trans (n2.below.mono u.size)
 refine Zn [1,2,4] ?_
 refine Qd (cg_still (by kernel_rfl) (by kernel_rfl) fun W3 hW3=>?_)
 have r1:=(show RowAt W3 b1 _ _ from by subst hW3;exact r1)
 have r2:=(show RowAt W3 b2 _ _ from by subst hW3;exact r2)
 have zW3:W3.heap.size=w2.heap.size:=by subst hW3;rfl
 have u:Below w.heap.size w W3:=by subst hW3;exact u.drew
 clear hW3
 refine Zsa (y_ixa (j:=0) hu8 hsw (by omega) rfl rfl rfl) ?_
 refine Zsa (y_cell r1 (cW_get (by omega)) huw rfl rfl) ?_
 refine Zsa (y_ixa (j:=1) hu8 hsw (by omega) rfl rfl rfl) ?_
 refine Zsa (y_cell r1 (cW_get (by omega)) huw rfl rfl) ?_
 refine Zsa (y_ixa (j:=2) hu8 hsw (by omega) rfl rfl rfl) ?_
 refine Zsa (y_cell r1 (cW_get (by omega)) huw rfl rfl) ?_
 refine Zsa (y_ixa (j:=3) hu8 hsw (by omega) rfl rfl rfl) ?_
 refine Zsa (y_cell r1 (cW_get (by omega)) huw rfl rfl) ?_
 refine Zsa (y_ixa (j:=4) hu8 hsw (by omega) rfl rfl rfl) ?_
 refine Zsa (y_cell r1 (cW_get (by omega)) huw rfl rfl) ?_
 refine Zsa (y_ixa (j:=5) hu8 hsw (by omega) rfl rfl rfl) ?_
 refine Zsa (y_cell r1 (cW_get (by omega)) huw rfl rfl) ?_
 refine Zsa (y_ixa (j:=6) hu8 hsw (by omega) rfl rfl rfl) ?_
 refine Zsa (y_cell r1 (cW_get (by omega)) huw rfl rfl) ?_
 refine Zsa (y_ixa (j:=7) hu8 hsw (by omega) rfl rfl rfl) ?_
 refine Zsa (y_cell r1 (cW_get (by omega)) huw rfl rfl) ?_
 refine Zsa y_assign ?_
 refine Zsa y_assign ?_
 refine Zsa y_assign ?_
 refine Zsa y_assign ?_
 refine Zsa y_assign ?_
 refine Zsa y_assign ?_
 refine Zsa y_assign ?_
 refine Zsa y_assign ?_
 refine Zsn [1,4,5,6,7,8,9,10,11,12] ?_
 refine Qd (Qe ?_)
 refine ZM ?_
 refine ZM ?_
 refine Za (Qp (turned_any _ 6 (by decide) (by decide) _) (by kernel_rfl) rfl rfl) ?_
 refine ZM ?_
 refine Za (Qp (turned_any _ 11 (by decide) (by decide) _) (by kernel_rfl) rfl rfl) ?_
 refine Za y_xor ?_
 refine ZM ?_
 refine Za (Qp (turned_any _ 25 (by decide) (by decide) _) (by kernel_rfl) rfl rfl) ?_
 refine Za y_xor ?_
 refine Za y_add ?_
 refine ZM ?_
 refine ZM ?_
 refine ZM ?_
 refine Za (Qp (chosen_any _ _ _ _)) ?_
 refine Za y_add ?_
 refine ZM ?_
 refine Za y_add ?_
 refine ZAn [4,5,6,7,8,9,10,11,13] ?_
 refine Qd (Qe ?_)
 refine ZM ?_
 refine Za (Qp (turned_any _ 2 (by decide) (by decide) _) (by kernel_rfl) rfl rfl) ?_
 refine ZM ?_
 refine Za (Qp (turned_any _ 13 (by decide) (by decide) _) (by kernel_rfl) rfl rfl) ?_
 refine Za y_xor ?_
 refine ZM ?_
 refine Za (Qp (turned_any _ 22 (by decide) (by decide) _) (by kernel_rfl) rfl rfl) ?_
 refine Za y_xor ?_
 refine ZM ?_
 refine ZM ?_
 refine ZM ?_
 refine Za (Qp (most_any _ _ _ _)) ?_
 refine Za y_add ?_
 refine ZAn [4,5,6,7,8,9,10,11,13,14] ?_
 refine Qd (Qe ?_)
 refine ZM ?_
 refine ZM ?_
 refine Za y_add ?_
 refine ZM ?_
 refine ZM ?_
 refine ZM ?_
 refine ZM ?_
 refine ZM ?_
 refine Za y_add ?_
 refine ZM ?_
 refine ZM ?_
 refine ZM ?_
 refine Za (y_build (cs:=cW 8 (stepF h nw))) ?_
 refine lg_store_row r2 rfl rfl rfl (hs8 _) (by rw [cW_size,cW_size]) (cW_one _ _) rfl rfl fun w4 sw4=>?_
 have r1:=sw4.keep r1 (by omega)
 have r2:=sw4.row
 have zw4:=sw4.size
 have u:Below w.heap.size w w4:=u.trans (sw4.below _ (by omega))
 refine Zn [4] ?_
 exact ret_row rfl rfl r2 hu8 (hs8 _) ⟨_,rfl,rfl,u⟩
/- BlSpread:
  The contract of Spread.
-/
set_option maxRecDepth 20000
theorem spread_any (b:Nat→BitVec 8) (w:World):Calls Tryz.prog 235 #[.agg (cB 64 b)] w fun e w'=>∃ v,e=.returned v∧v=.agg (cW 64 (spr b))∧Below w.heap.size w w':=by
 refine Qf (n:=76) Tryz.func235 rfl Tryz.ntmps235 (by simp) ?_
 show CG _ _ _ [(0,.agg (cB 64 b))] _ _
 have u:=Below.refl w.heap.size w
 refine Qd (Qe ?_)
 refine lg_box rfl rfl (hso _) rfl rfl (by decide) fun b1 w1 n1=>?_
 have r1:=n1.row
 have k1:=n1.blk
 have z1:=n1.size
 have u:Below w.heap.size w w1:=u.trans (n1.below.mono u.size)
 refine lg_alloc rfl hz64 rfl rfl (by decide) fun b2 w2 n2=>?_
 have r1:=n2.keep r1
 have r2:=n2.row
 have k2:=n2.blk
 have z2:=n2.size
 have u:Below w.heap.size w w2:=u.trans (n2.below.mono u.size)
 refine Zn [1,2] ?_
 refine Qd (Qe ?_)
 refine lg_alloc rfl hz64 rfl rfl (by decide) fun b3 w3 n3=>?_
 have r1:=n3.keep r1
 have r2:=n3.keep r2
 have r3:=n3.row
 have k3:=n3.blk
 have z3:=n3.size
 have u:Below w.heap.size w w3:=u.trans (n3.below.mono u.size)
 refine Zn [1,2,3] ?_
 refine Qd ?_
 refine Qd (Qe ?_)
 refine Zan (y_move (v:=iv 0)) [1,2,3,8] ?_
 refine Qj fun a ha=>?_
 refine cg_loop (fun t a v=>Holds 76 [(1,pv b1 0),(2,pv b2 0),(3,pv b3 0),(8,iv t)] a∧RowAt v b1 154 (cB 64 b)∧RowAt v b2 179 (cW 64 fun _=>0)∧RowAt v b3 179 (cW 64 (head b t))∧v.heap.size=w3.heap.size∧Below w.heap.size w v) 16 ⟨ha.keep (fk rfl (fk rfl (fk rfl (fk rfl fn)))),r1,r2,r3,rfl,u⟩ ?_
 clear a ha
 rintro t a v ht ⟨ha,r1,r2,r3,zv,u⟩
 refine cg_at ha ?_
 clear a ha
 refine Qd (Qe ?_)
 refine Zan (y_ilss (t) (16)) [1,2,3,8,9] ?_
 refine Qd (cg_cond (decide (t<16)) rfl (fun hlt=>?_) (fun hge=>?_))
 ·have hlt:t<16:=of_decide_eq_true hlt
  refine Zki [1,2,3,8] ?_
  refine Qd (Qj ?_)
  refine Qd (Qe ?_)
  refine ZM ?_
  refine ZAn [1,2,3,4,8] ?_
  refine cg_tail 22 (by kernel_rfl) (by kernel_rfl) fun W4 hW4=>?_
  have r1:=(show RowAt W4 b1 _ _ from by subst hW4;exact r1)
  have r2:=(show RowAt W4 b2 _ _ from by subst hW4;exact r2)
  have r3:=(show RowAt W4 b3 _ _ from by subst hW4;exact r3)
  have zW4:W4.heap.size=v.heap.size:=by subst hW4;rfl
  have u:Below w.heap.size w W4:=by subst hW4;exact u.drew
  clear hW4
  simp only [List.take_succ_cons,List.take_zero,List.drop_succ_cons,List.drop_zero]
  refine Zsa y_move ?_
  refine Zsa y_move ?_
  refine Zsa (y_imul (4) (t) (by omega) rfl rfl rfl) ?_
  refine Zsa (y_ixa (j:=4*t) huo hsb (by omega) rfl rfl rfl) ?_
  refine Zsa (y_cell r1 (cB_get (by omega)) hub rfl rfl) ?_
  refine Zsa y_move ?_
  refine Zsa (y_imul (4) (t) (by omega) rfl rfl rfl) ?_
  refine Zsa (y_iadd (4*t) (1) (by omega) rfl rfl rfl) ?_
  refine Zsa (y_ixa (j:=(4*t)+1) huo hsb (by omega) rfl rfl rfl) ?_
  refine Zsa (y_cell r1 (cB_get (by omega)) hub rfl rfl) ?_
  refine Zsa y_move ?_
  refine Zsa (y_imul (4) (t) (by omega) rfl rfl rfl) ?_
  refine Zsa (y_iadd (4*t) (2) (by omega) rfl rfl rfl) ?_
  refine Zsa (y_ixa (j:=(4*t)+2) huo hsb (by omega) rfl rfl rfl) ?_
  refine Zsa (y_cell r1 (cB_get (by omega)) hub rfl rfl) ?_
  refine Zsa y_move ?_
  refine Zsa (y_imul (4) (t) (by omega) rfl rfl rfl) ?_
  refine Zsa (y_iadd (4*t) (3) (by omega) rfl rfl rfl) ?_
  refine Zsa (y_ixa (j:=(4*t)+3) huo hsb (by omega) rfl rfl rfl) ?_
  refine Zsa (y_cell r1 (cB_get (by omega)) hub rfl rfl) ?_
  refine Zsa (Qp (word_any _ _ _ _ _)) ?_
  refine Zsa (y_ixa (j:=t) hu64 hsw (by omega) rfl rfl rfl) ?_
  refine sg_lg ?_
  refine lg_store r3 (by rw [cW_size];omega) rfl rfl rfl rfl hsw rfl rfl fun w5 sw5=>?_
  rw [cW_set] at sw5
  have r1:=sw5.keep r1 (by omega)
  have r2:=sw5.keep r2 (by omega)
  have r3:=sw5.row
  have zw5:=sw5.size
  have u:Below w.heap.size w w5:=u.trans (sw5.below _ (by omega))
  refine Qk (nxb (E':=[(1,_),(2,_),(3,_),(8,_)]) (fk rfl (fk rfl (fk rfl (fk rfl fn)))) ?_)
  refine Qe ?_
  refine Za (y_iadd (t) (1) (by omega) rfl rfl rfl) ?_
  refine ZM ?_
  exact Qk fun a ha=>(show t<16∧_ from ⟨hlt,ha.keep (fk rfl (fk rfl (fk rfl (fk rfl fn)))),r1,r2,r3,by omega,u⟩)
 have hge:=of_decide_eq_false hge
 obtain rfl:t=16:=by omega
 refine cg_exit (ex_out ?_)
 refine Nx [1,2,3] ?_
 refine Qd ?_
 refine Qd (Qe ?_)
 refine Zan (y_assign (v:=iv 16)) [1,2,3,5] ?_
 clear ht hge
 have zq:=zv
 clear zv
 refine Qj fun a ha=>?_
 refine cg_loop (fun k a v=>Holds 76 [(1,pv b1 0),(2,pv b2 0),(3,pv b3 0),(5,iv (16+k))] a∧RowAt v b1 154 (cB 64 b)∧RowAt v b2 179 (cW 64 fun _=>0)∧RowAt v b3 179 (cW 64 (tailF b k))∧v.heap.size=w3.heap.size∧Below w.heap.size w v) 48 ⟨ha.keep (fk rfl (fk rfl (fk rfl (fk rfl fn)))),r1,r2,r3,zq,u⟩ ?_
 clear a ha
 rintro k a v ht ⟨ha,r1,r2,r3,zv,u⟩
 refine cg_at ha ?_
 clear a ha
 refine Qd ?_
 refine Qd (Qe ?_)
 refine ZM ?_
 refine Zan (y_ilss (16+k) (64)) [1,2,3,5,35] ?_
 refine cg_cond (decide (16+k<64)) rfl (fun hlt=>?_) (fun hge=>?_)
 ·have hlt:16+k<64:=of_decide_eq_true hlt
  refine Zki [1,2,3,5] ?_
  refine Qd (Qj ?_)
  refine Qd (cg_still (by kernel_rfl) (by kernel_rfl) fun W4 hW4=>?_)
  have r1:=(show RowAt W4 b1 _ _ from by subst hW4;exact r1)
  have r2:=(show RowAt W4 b2 _ _ from by subst hW4;exact r2)
  have r3:=(show RowAt W4 b3 _ _ from by subst hW4;exact r3)
  have zW4:W4.heap.size=v.heap.size:=by subst hW4;rfl
  have u:Below w.heap.size w W4:=by subst hW4;exact u.drew
  clear hW4
  refine Zsa y_move ?_
  refine Zsa (y_isub (16+k) (15) (by omega) (by omega) rfl rfl rfl) ?_
  refine Zsa (y_ixa (j:=(16+k)-15) hu64 hsw (by omega) rfl rfl rfl) ?_
  refine Zsa (y_cell r3 (cW_get (by omega)) huw rfl rfl) ?_
  refine Zsa y_move ?_
  refine Zsa (y_isub (16+k) (2) (by omega) (by omega) rfl rfl rfl) ?_
  refine Zsa (y_ixa (j:=(16+k)-2) hu64 hsw (by omega) rfl rfl rfl) ?_
  refine Zsa (y_cell r3 (cW_get (by omega)) huw rfl rfl) ?_
  refine Zsa y_assign ?_
  refine Zsa y_assign ?_
  refine Zsn [1,2,3,5,6,7] ?_
  refine cg_tail 29 (by kernel_rfl) (by kernel_rfl) fun W5 hW5=>?_
  have r1:=(show RowAt W5 b1 _ _ from by subst hW5;exact r1)
  have r2:=(show RowAt W5 b2 _ _ from by subst hW5;exact r2)
  have r3:=(show RowAt W5 b3 _ _ from by subst hW5;exact r3)
  have zW5:W5.heap.size=W4.heap.size:=by subst hW5;rfl
  have u:Below w.heap.size w W5:=by subst hW5;exact u.drew
  clear hW5
  simp only [List.take_succ_cons,List.take_zero,List.drop_succ_cons,List.drop_zero]
  refine Zsa y_move ?_
  refine Zsa y_move ?_
  refine Zsa (y_isub (16+k) (16) (by omega) (by omega) rfl rfl rfl) ?_
  refine Zsa (y_ixa (j:=(16+k)-16) hu64 hsw (by omega) rfl rfl rfl) ?_
  refine Zsa (y_cell r3 (cW_get (by omega)) huw rfl rfl) ?_
  refine Zsa y_move ?_
  refine Zsa (Qp (turned_any _ 7 (by decide) (by decide) _) (by kernel_rfl) rfl rfl) ?_
  refine Zsa y_move ?_
  refine Zsa (Qp (turned_any _ 18 (by decide) (by decide) _) (by kernel_rfl) rfl rfl) ?_
  refine Zsa y_xor ?_
  refine Zsa y_move ?_
  refine Zsa (y_shr (3) .u64 (by first | decide | omega) rfl rfl rfl) ?_
  refine Zsa y_xor ?_
  refine Zsa y_add ?_
  refine Zsa y_move ?_
  refine Zsa (y_isub (16+k) (7) (by omega) (by omega) rfl rfl rfl) ?_
  refine Zsa (y_ixa (j:=(16+k)-7) hu64 hsw (by omega) rfl rfl rfl) ?_
  refine Zsa (y_cell r3 (cW_get (by omega)) huw rfl rfl) ?_
  refine Zsa y_add ?_
  refine Zsa y_move ?_
  refine Zsa (Qp (turned_any _ 17 (by decide) (by decide) _) (by kernel_rfl) rfl rfl) ?_
  refine Zsa y_move ?_
  refine Zsa (Qp (turned_any _ 19 (by decide) (by decide) _) (by kernel_rfl) rfl rfl) ?_
  refine Zsa y_xor ?_
  refine Zsa y_move ?_
  refine Zsa (y_shr (10) .u64 (by first | decide | omega) rfl rfl rfl) ?_
  refine Zsa y_xor ?_
  refine Zsa y_add ?_
  refine Zsa (y_ixa (j:=16+k) hu64 hsw (by omega) rfl rfl rfl) ?_
  refine sg_lg ?_
  refine lg_store r3 (by rw [cW_size];omega) rfl rfl rfl rfl hsw rfl rfl fun w6 sw6=>?_
  rw [cW_set] at sw6
  have r1:=sw6.keep r1 (by omega)
  have r2:=sw6.keep r2 (by omega)
  have r3:=sw6.row
  have zw6:=sw6.size
  have u:Below w.heap.size w w6:=u.trans (sw6.below _ (by omega))
  refine Qk (nxb (E':=[(1,_),(2,_),(3,_),(5,_)]) (fk rfl (fk rfl (fk rfl (fk rfl fn)))) ?_)
  refine Qe ?_
  refine ZM ?_
  refine Za (y_iadd (16+k) (1) (by omega) rfl rfl rfl) ?_
  refine ZA ?_
  exact Qk fun a ha=>(show k<48∧_ from ⟨by omega,ha.keep (fk rfl (fk rfl (fk rfl (fk rfl fn)))),r1,r2,r3,by omega,u⟩)
 have hge:=of_decide_eq_false hge
 obtain rfl:k=48:=by omega
 refine cg_exit (ex_out ?_)
 refine Nx [2,3] ?_
 refine Qd (Qe ?_)
 refine Za (y_row r3 hu64 (hs64 _)) ?_
 refine lg_store_row r2 rfl rfl rfl (hs64 _) (by rw [cW_size,cW_size]) (cW_one _ _) rfl rfl fun w4 sw4=>?_
 have r1:=sw4.keep r1 (by omega)
 have r2:=sw4.row
 have r3:=sw4.keep r3 (by omega)
 have zw4:=sw4.size
 have u:Below w.heap.size w w4:=u.trans (sw4.below _ (by omega))
 refine Zn [2] ?_
 exact ret_row rfl rfl r2 hu64 (hs64 _) ⟨_,rfl,rfl,u⟩
/- BlMix:
  The contract of Mix.
-/
set_option maxRecDepth 20000
def gF (h V:Nat→BitVec 32):Nat→Nat→BitVec 32
 | 0=>h
 | i+1=>upd (gF h V i) i (gF h V i i+V i)
theorem gF_eq (h V:Nat→BitVec 32):∀ i,i<8→gF h V 8 i=(fun i=>h i+V i) i:=by
 have key:∀ n i,gF h V n i=if i<n then h i+V i else h i:=by
  intro n
  induction n with
  | zero=>intro i;simp [gF]
  | succ n ih =>
   intro i
   simp only [gF,upd,ih]
   by_cases e:i=n
   ·subst e;simp
   by_cases l:i<n
   ·simp [e,l,show i<n+1 by omega]
   simp [e,l,show ¬i<n+1 by omega]
 intro i hi
 rw [key,if_pos hi]
theorem mix_any (h:Nat→BitVec 32) (b:Nat→BitVec 8) (w:World) {tg:TypeId} (rg:RowAt w 2 tg (cW 64 num)):Calls Tryz.prog 217 #[.agg (cW 8 h),.agg (cB 64 b)] w fun e w'=>∃ v,e=.returned v∧v=.agg (cW 8 (mixF h b))∧Below w.heap.size w w':=by
 refine Qf (n:=37) Tryz.func217 rfl Tryz.ntmps217 (by simp) ?_
 show CG _ _ _ [(0,.agg (cW 8 h)),(1,.agg (cB 64 b))] _ _
 have u:=Below.refl w.heap.size w
 have kg:=rg.lt
 refine Qd (Qe ?_)
 refine lg_box rfl rfl (hs8 _) rfl rfl (by decide) fun b1 w1 n1=>?_
 have rg:=n1.keep rg
 have r1:=n1.row
 have k1:=n1.blk
 have z1:=n1.size
 have u:Below w.heap.size w w1:=u.trans (n1.below.mono u.size)
 refine lg_box rfl rfl (hso _) rfl rfl (by decide) fun b2 w2 n2=>?_
 have rg:=n2.keep rg
 have r1:=n2.keep r1
 have r2:=n2.row
 have k2:=n2.blk
 have z2:=n2.size
 have u:Below w.heap.size w w2:=u.trans (n2.below.mono u.size)
 refine lg_alloc rfl hz8 rfl rfl (by decide) fun b3 w3 n3=>?_
 have rg:=n3.keep rg
 have r1:=n3.keep r1
 have r2:=n3.keep r2
 have r3:=n3.row
 have k3:=n3.blk
 have z3:=n3.size
 have u:Below w.heap.size w w3:=u.trans (n3.below.mono u.size)
 refine Zn [2,3,4] ?_
 refine Qd (Qe ?_)
 refine Za (y_row r1 hu8 (hs8 _)) ?_
 refine lg_alloc rfl hz8 rfl rfl (by decide) fun b4 w4 n4=>?_
 have rg:=n4.keep rg
 have r1:=n4.keep r1
 have r2:=n4.keep r2
 have r3:=n4.keep r3
 have r4:=n4.row
 have k4:=n4.blk
 have z4:=n4.size
 have u:Below w.heap.size w w4:=u.trans (n4.below.mono u.size)
 refine lg_store_row r4 rfl rfl rfl (hs8 _) (by simp only [cW_size]) (cW_one _ _) rfl rfl fun w5 sw5=>?_
 have rg:=sw5.keep rg (by omega)
 have r1:=sw5.keep r1 (by omega)
 have r2:=sw5.keep r2 (by omega)
 have r3:=sw5.keep r3 (by omega)
 have r4:=sw5.row
 have zw5:=sw5.size
 have u:Below w.heap.size w w5:=u.trans (sw5.below _ (by omega))
 refine Zn [2,3,4,5] ?_
 refine Qd ?_
 refine Qd (Qe ?_)
 refine Za (y_row r2 huo (hso _)) ?_
 refine lg_call (spread_any _ _) (by kernel_rfl) rfl rfl rfl rfl (by decide) ?_
 rintro _ w6 ⟨rfl,hw6⟩
 have rg:=rg.below hw6 rg.lt
 have r1:=r1.below hw6 r1.lt
 have r2:=r2.below hw6 r2.lt
 have r3:=r3.below hw6 r3.lt
 have r4:=r4.below hw6 r4.lt
 have zw6:=hw6.size
 have u:Below w.heap.size w w6:=u.trans (hw6.mono u.size)
 refine Zan (y_move (v:=iv 0)) [2,4,5,11,12] ?_
 refine Qj fun a ha=>?_
 refine cg_loop (fun t a v=>Holds 37 [(2,pv b1 0),(4,pv b3 0),(5,pv b4 0),(11,.agg (cW 64 (spr b))),(12,iv t)] a∧RowAt v 2 tg (cW 64 num)∧RowAt v b1 133 (cW 8 (h))∧RowAt v b3 133 (cW 8 fun _=>0)∧RowAt v b4 133 (cW 8 (vF h b t))∧w6.heap.size≤v.heap.size∧Below w.heap.size w v) 64 ⟨ha.keep (fk rfl (fk rfl (fk rfl (fk rfl (fk rfl fn))))),rg,r1,r3,r4,Nat.le_refl _,u⟩ ?_
 clear a ha
 rintro t a v ht ⟨ha,rg,r1,r3,r4,zv,u⟩
 refine cg_at ha ?_
 clear a ha
 refine Qd (Qe ?_)
 refine Zan (y_ilss (t) (64)) [2,4,5,11,12,13] ?_
 refine Qd (cg_cond (decide (t<64)) rfl (fun hlt=>?_) (fun hge=>?_))
 ·have hlt:t<64:=of_decide_eq_true hlt
  refine Zki [2,4,5,11,12] ?_
  refine Qd (Qj ?_)
  refine Qd (Qe ?_)
  refine ZM ?_
  refine Za (y_idx (j:=t) hu64 hsw huw (by omega) (cW_get (by omega)) rfl rfl rfl) ?_
  refine ZA ?_
  refine ZAn [2,4,5,6,7,11,12] ?_
  refine cg_tail 6 (by kernel_rfl) (by kernel_rfl) fun W7 hW7=>?_
  have rg:=(show RowAt W7 2 _ _ from by subst hW7;exact rg)
  have r1:=(show RowAt W7 b1 _ _ from by subst hW7;exact r1)
  have r3:=(show RowAt W7 b3 _ _ from by subst hW7;exact r3)
  have r4:=(show RowAt W7 b4 _ _ from by subst hW7;exact r4)
  have zW7:W7.heap.size=v.heap.size:=by subst hW7;rfl
  have u:Below w.heap.size w W7:=by subst hW7;exact u.drew
  clear hW7
  simp only [List.take_succ_cons,List.take_zero,List.drop_succ_cons,List.drop_zero]
  refine Zsa (y_row r4 hu8 (hs8 _)) ?_
  refine Zsa y_move ?_
  refine Zsa (y_ixa (j:=t) hu64 hsw (by omega) rfl rfl rfl) ?_
  refine Zsa (y_cell rg (cW_get (by omega)) huw rfl rfl) ?_
  refine Zsa y_move ?_
  refine Zsa y_add ?_
  refine sg_lg ?_
  refine lg_call (step_any _ _ _) (by kernel_rfl) rfl rfl rfl rfl (by decide) ?_
  rintro _ w8 ⟨rfl,hw8⟩
  have rg:=rg.below hw8 rg.lt
  have r1:=r1.below hw8 r1.lt
  have r3:=r3.below hw8 r3.lt
  have r4:=r4.below hw8 r4.lt
  have zw8:=hw8.size
  have u:Below w.heap.size w w8:=u.trans (hw8.mono u.size)
  refine lg_store_row r4 rfl rfl rfl (hs8 _) (by simp only [cW_size]) (cW_one _ _) rfl rfl fun w9 sw9=>?_
  have rg:=sw9.keep rg (by omega)
  have r1:=sw9.keep r1 (by omega)
  have r3:=sw9.keep r3 (by omega)
  have r4:=sw9.row
  have zw9:=sw9.size
  have u:Below w.heap.size w w9:=u.trans (sw9.below _ (by omega))
  refine Qk (nxb (E':=[(2,_),(4,_),(5,_),(11,_),(12,_)]) (fk rfl (fk rfl (fk rfl (fk rfl (fk rfl fn))))) ?_)
  refine Qe ?_
  refine Za (y_iadd (t) (1) (by omega) rfl rfl rfl) ?_
  refine ZM ?_
  exact Qk fun a ha=>(show t<64∧_ from ⟨hlt,ha.keep (fk rfl (fk rfl (fk rfl (fk rfl (fk rfl fn))))),rg,r1,r3,r4,by omega,u⟩)
 have hge:=of_decide_eq_false hge
 obtain rfl:t=64:=by omega
 refine cg_exit (ex_out ?_)
 refine Nx [2,4,5] ?_
 refine Qd ?_
 refine Qd (Qe ?_)
 refine Zan (y_move (v:=iv 0)) [2,4,5,24] ?_
 clear ht hge
 refine Qj fun a ha=>?_
 refine cg_loop (fun i a v=>Holds 37 [(2,pv b1 0),(4,pv b3 0),(5,pv b4 0),(24,iv i)] a∧RowAt v 2 tg (cW 64 num)∧RowAt v b1 133 (cW 8 (gF h (vF h b 64) i))∧RowAt v b3 133 (cW 8 fun _=>0)∧RowAt v b4 133 (cW 8 (vF h b 64))∧w6.heap.size≤v.heap.size∧Below w.heap.size w v) 8 ⟨ha.keep (fk rfl (fk rfl (fk rfl (fk rfl fn)))),rg,r1,r3,r4,zv,u⟩ ?_
 clear a ha
 rintro i a v ht ⟨ha,rg,r1,r3,r4,zv,u⟩
 refine cg_at ha ?_
 clear a ha
 refine Qd (Qe ?_)
 refine Zan (y_ilss (i) (8)) [2,4,5,24,25] ?_
 refine Qd (cg_cond (decide (i<8)) rfl (fun hlt=>?_) (fun hge=>?_))
 ·have hlt:i<8:=of_decide_eq_true hlt
  refine Zki [2,4,5,24] ?_
  refine Qd (Qj ?_)
  refine Qd (Qe ?_)
  refine ZM ?_
  refine ZAn [2,4,5,8,24] ?_
  refine cg_tail 8 (by kernel_rfl) (by kernel_rfl) fun W7 hW7=>?_
  have rg:=(show RowAt W7 2 _ _ from by subst hW7;exact rg)
  have r1:=(show RowAt W7 b1 _ _ from by subst hW7;exact r1)
  have r3:=(show RowAt W7 b3 _ _ from by subst hW7;exact r3)
  have r4:=(show RowAt W7 b4 _ _ from by subst hW7;exact r4)
  have zW7:W7.heap.size=v.heap.size:=by subst hW7;rfl
  have u:Below w.heap.size w W7:=by subst hW7;exact u.drew
  clear hW7
  simp only [List.take_succ_cons,List.take_zero,List.drop_succ_cons,List.drop_zero]
  refine Zsa y_move ?_
  refine Zsa (y_ixa (j:=i) hu8 hsw (by omega) rfl rfl rfl) ?_
  refine Zsa (y_cell r1 (cW_get (by omega)) huw rfl rfl) ?_
  refine Zsa y_move ?_
  refine Zsa (y_ixa (j:=i) hu8 hsw (by omega) rfl rfl rfl) ?_
  refine Zsa (y_cell r4 (cW_get (by omega)) huw rfl rfl) ?_
  refine Zsa y_add ?_
  refine Zsa (y_ixa (j:=i) hu8 hsw (by omega) rfl rfl rfl) ?_
  refine sg_lg ?_
  refine lg_store r1 (by rw [cW_size];omega) rfl rfl rfl rfl hsw rfl rfl fun w8 sw8=>?_
  rw [cW_set] at sw8
  have rg:=sw8.keep rg (by omega)
  have r1:=sw8.row
  have r3:=sw8.keep r3 (by omega)
  have r4:=sw8.keep r4 (by omega)
  have zw8:=sw8.size
  have u:Below w.heap.size w w8:=u.trans (sw8.below _ (by omega))
  refine Qk (nxb (E':=[(2,_),(4,_),(5,_),(24,_)]) (fk rfl (fk rfl (fk rfl (fk rfl fn)))) ?_)
  refine Qe ?_
  refine Za (y_iadd (i) (1) (by omega) rfl rfl rfl) ?_
  refine ZM ?_
  exact Qk fun a ha=>(show i<8∧_ from ⟨hlt,ha.keep (fk rfl (fk rfl (fk rfl (fk rfl fn)))),rg,r1,r3,r4,by omega,u⟩)
 have hge:=of_decide_eq_false hge
 obtain rfl:i=8:=by omega
 refine cg_exit (ex_out ?_)
 refine Nx [2,4] ?_
 refine Qd (Qe ?_)
 refine Za (y_row r1 hu8 (hs8 _)) ?_
 refine lg_store_row r3 rfl rfl rfl (hs8 _) (by simp only [cW_size]) (cW_one _ _) rfl rfl fun w7 sw7=>?_
 have rg:=sw7.keep rg (by omega)
 have r1:=sw7.keep r1 (by omega)
 have r3:=sw7.row
 have r4:=sw7.keep r4 (by omega)
 have zw7:=sw7.size
 have u:Below w.heap.size w w7:=u.trans (sw7.below _ (by omega))
 refine Zn [4] ?_
 rw [cW_ext (gF_eq h (vF h b 64))] at r3
 exact ret_row rfl rfl r3 hu8 (hs8 _) ⟨_,rfl,rfl,u⟩
/- BlMore:
  More facts on the types of this program; words of four octets.
-/
theorem g8:Tryz.prog.eqGuardType Tryz.prog.depth 133=false:=by kernel_rfl
theorem hus:Tryz.prog.underlying 181=some (.slice 132):=by kernel_rfl
theorem hzw:(Tryz.prog.info? 132).map (fun i=>(i.zero,i.size))=some (some (.int .u32 0),1):=by kernel_rfl
theorem y_bw {E:Env} {o:Oper} {w:World} {x:Operand} {X:BitVec 8} (ho:o.op=.convert 5 132 x:=by rfl) (hx:val E x=some (ov X):=by rfl):Yields Tryz.prog E o w (wv (X.setWidth 32)):=by
 have h:=y_conv_u (w:=w) hub huw ho hx
 have e:IntKind.u32.wrap (vb X)=vw (X.setWidth 32):=by rw [u_of_b,vw_wrap]
 rw [e] at h
 exact h
theorem y_wb {E:Env} {o:Oper} {w:World} {x:Operand} {X:BitVec 32} (ho:o.op=.convert 132 5 x:=by rfl) (hx:val E x=some (wv X):=by rfl):Yields Tryz.prog E o w (ov (X.setWidth 8)):=by
 have h:=y_conv_u (w:=w) huw hub ho hx
 have e:IntKind.u8.wrap (vw X)=vb (X.setWidth 8):=by
  rw [wrap_u8]
  unfold vw vb
  rw [BitVec.toNat_setWidth]
  omega
 rw [e] at h
 exact h
theorem or4 (i j k l:Nat) (hj:j<256) (hk:k<256) (hl:l<256):((i <<< 24 ||| j <<< 16) ||| k <<< 8) ||| l=i*16777216+j*65536+k*256+l:=by
 rw [Nat.or_assoc,Nat.or_assoc]
 rw [←Nat.shiftLeft_add_eq_or_of_lt (show l<2 ^ 8 by omega) k]
 have e1:k <<< 8+l=k*256+l:=by rw [Nat.shiftLeft_eq]
 rw [e1,←Nat.shiftLeft_add_eq_or_of_lt (show k*256+l<2 ^ 16 by omega) j]
 have e2:j <<< 16=j*65536:=by rw [Nat.shiftLeft_eq]
 rw [e2,←Nat.shiftLeft_add_eq_or_of_lt (show j*65536+(k*256+l)<2 ^ 24 by omega) i]
 have e3:i <<< 24=i*16777216:=by rw [Nat.shiftLeft_eq]
 rw [e3]
 omega
theorem sw_nat (x:BitVec 8):(x.setWidth 32).toNat=x.toNat:=by
 have:=x.isLt
 rw [BitVec.toNat_setWidth,Nat.mod_eq_of_lt (by omega)]
theorem sh_nat (x:BitVec 8) (k:Nat) (hk:k≤24):(x.setWidth 32 <<< k).toNat=x.toNat <<< k:=by
 rw [BitVec.toNat_shiftLeft,sw_nat,Nat.mod_eq_of_lt]
 have:=x.isLt
 rw [Nat.shiftLeft_eq]
 calc x.toNat*2 ^ k≤255*2 ^ 24:=Nat.mul_le_mul (by omega) (Nat.pow_le_pow_right (by omega) hk)
  _<2 ^ 32:=by decide
theorem wd_nat (i j k l:BitVec 8):(wd i j k l).toNat=i.toNat*16777216+j.toNat*65536+k.toNat*256+l.toNat:=by
 unfold wd
 rw [BitVec.toNat_or,BitVec.toNat_or,BitVec.toNat_or,sh_nat _ _ (by omega),sh_nat _ _ (by omega),sh_nat _ _ (by omega),sw_nat]
 exact or4 _ _ _ _ j.isLt k.isLt l.isLt
theorem mul_nat (x:BitVec 8) (c:Nat) (hc:c≤16777216):(x.setWidth 32*BitVec.ofNat 32 c).toNat=x.toNat*c:=by
 have h:=x.isLt
 have h1:x.toNat*c≤255*16777216:=Nat.mul_le_mul (by omega) hc
 rw [BitVec.toNat_mul,sw_nat,BitVec.toNat_ofNat,Nat.mod_eq_of_lt (show c<2 ^ 32 by omega),Nat.mod_eq_of_lt (by omega)]
theorem wd_sum (i j k l:BitVec 8):i.setWidth 32*16777216#32+j.setWidth 32*65536#32+k.setWidth 32*256#32+l.setWidth 32=wd i j k l:=by
 apply BitVec.eq_of_toNat_eq
 have hi:=i.isLt
 have hj:=j.isLt
 have hk:=k.isLt
 have hl:=l.isLt
 rw [wd_nat,BitVec.toNat_add,BitVec.toNat_add,BitVec.toNat_add,mul_nat _ _ (by omega),mul_nat _ _ (by omega),mul_nat _ _ (by omega),sw_nat]
 generalize i.toNat=a at *
 generalize j.toNat=b at *
 generalize k.toNat=c at *
 generalize l.toNat=d at *
 omega
/- BlRef:
  The contracts of First, and of the answers of the document.
-/
set_option maxRecDepth 20000
theorem first_any (w:World):Calls Tryz.prog 191 #[] w fun e w'=>∃ v,e=.returned v∧v=.agg (cW 8 firstF)∧Below w.heap.size w w':=by
 refine Qf (n:=2) Tryz.func191 rfl Tryz.ntmps191 (by simp) ?_
 show CG _ _ _ [] _ _
 have u:=Below.refl w.heap.size w
 refine Qd (Qe ?_)
 refine lg_alloc rfl hz8 rfl rfl (by decide) fun b1 w1 n1=>?_
 have r1:=n1.row
 have k1:=n1.blk
 have z1:=n1.size
 have u:Below w.heap.size w w1:=u.trans (n1.below.mono u.size)
 refine Zn [0] ?_
 refine Qd (Qe ?_)
 refine Za (y_build (cs:=cW 8 firstF)) ?_
 refine lg_store_row r1 rfl rfl rfl (hs8 _) (by simp only [cW_size]) (cW_one _ _) rfl rfl fun w2 sw2=>?_
 have r1:=sw2.row
 have zw2:=sw2.size
 have u:Below w.heap.size w w2:=u.trans (sw2.below _ (by omega))
 refine Zn [0] ?_
 exact ret_row rfl rfl r1 hu8 (hs8 _) ⟨_,rfl,rfl,u⟩
theorem rfirst_any (w:World):Calls Tryz.prog 182 #[] w fun e w'=>∃ v,e=.returned v∧v=.agg (cW 8 firstF)∧Below w.heap.size w w':=by
 refine Qf (n:=2) Tryz.func182 rfl Tryz.ntmps182 (by simp) ?_
 show CG _ _ _ [] _ _
 have u:=Below.refl w.heap.size w
 refine Qd (Qe ?_)
 refine lg_alloc rfl hz8 rfl rfl (by decide) fun b1 w1 n1=>?_
 have r1:=n1.row
 have k1:=n1.blk
 have z1:=n1.size
 have u:Below w.heap.size w w1:=u.trans (n1.below.mono u.size)
 refine Zn [0] ?_
 refine Qd (Qe ?_)
 refine Za (y_build (cs:=cW 8 firstF)) ?_
 refine lg_store_row r1 rfl rfl rfl (hs8 _) (by simp only [cW_size]) (cW_one _ _) rfl rfl fun w2 sw2=>?_
 have r1:=sw2.row
 have zw2:=sw2.size
 have u:Below w.heap.size w w2:=u.trans (sw2.below _ (by omega))
 refine Zn [0] ?_
 exact ret_row rfl rfl r1 hu8 (hs8 _) ⟨_,rfl,rfl,u⟩
theorem rnumbers_any (w:World):Calls Tryz.prog 211 #[] w fun e w'=>∃ v,e=.returned v∧∃ b,v=.slice (some ⟨b,0,none⟩) 64 64∧RowAt w' b 132 (cW 64 num)∧w.heap.size≤b∧Below w.heap.size w w':=by
 refine Qf (n:=2) Tryz.func211 rfl Tryz.ntmps211 (by simp) ?_
 show CG _ _ _ [] _ _
 have u:=Below.refl w.heap.size w
 refine Qd (Qe ?_)
 refine ZA ?_
 refine Qk (nx (E':=[]) fn ?_)
 refine Qd (Qe ?_)
 refine lg_bslice (cs:=cW 64 num) hus hzw (by decide) (by decide) rfl rfl (by kernel_rfl) rfl rfl (by decide) fun b1 w1 n1=>?_
 have u:Below w.heap.size w w1:=u.trans (n1.below.mono u.size)
 have k1:=n1.blk
 refine ZAn [0] ?_
 exact ret_tmp rfl rfl ⟨_,rfl,b1,rfl,n1.row,by omega,u⟩
theorem rspread_any (b:Nat→BitVec 8) (w:World):Calls Tryz.prog 210 #[.agg (cB 64 b)] w fun e w'=>∃ v,e=.returned v∧v=.agg (cW 64 (spr b))∧Below w.heap.size w w':=by
 refine Qf (n:=90) Tryz.func210 rfl Tryz.ntmps210 (by simp) ?_
 show CG _ _ _ [(0,.agg (cB 64 b))] _ _
 have u:=Below.refl w.heap.size w
 refine Qd (Qe ?_)
 refine lg_box rfl rfl (hso _) rfl rfl (by decide) fun b1 w1 n1=>?_
 have r1:=n1.row
 have k1:=n1.blk
 have z1:=n1.size
 have u:Below w.heap.size w w1:=u.trans (n1.below.mono u.size)
 refine lg_alloc rfl hz64 rfl rfl (by decide) fun b2 w2 n2=>?_
 have r1:=n2.keep r1
 have r2:=n2.row
 have k2:=n2.blk
 have z2:=n2.size
 have u:Below w.heap.size w w2:=u.trans (n2.below.mono u.size)
 refine Zn [1,2] ?_
 refine Qd (Qe ?_)
 refine Za (y_build (cs:=cW 64 fun _=>0)) ?_
 refine lg_alloc rfl hz64 rfl rfl (by decide) fun b3 w3 n3=>?_
 have r1:=n3.keep r1
 have r2:=n3.keep r2
 have r3:=n3.row
 have k3:=n3.blk
 have z3:=n3.size
 have u:Below w.heap.size w w3:=u.trans (n3.below.mono u.size)
 refine lg_store_row r3 rfl rfl rfl (hs64 _) (by simp only [cW_size]) (cW_one _ _) rfl rfl fun w4 sw4=>?_
 have r1:=sw4.keep r1 (by omega)
 have r2:=sw4.keep r2 (by omega)
 have r3:=sw4.row
 have zw4:=sw4.size
 have u:Below w.heap.size w w4:=u.trans (sw4.below _ (by omega))
 refine Zn [1,2,3] ?_
 refine Qd ?_
 refine Qd (Qe ?_)
 refine Zan (y_assign (v:=iv 0)) [1,2,3,4] ?_
 refine Qj fun a ha=>?_
 refine cg_loop (fun t a v=>Holds 90 [(1,pv b1 0),(2,pv b2 0),(3,pv b3 0),(4,iv t)] a∧RowAt v b1 154 (cB 64 b)∧RowAt v b2 179 (cW 64 fun _=>0)∧RowAt v b3 179 (cW 64 (head b t))∧v.heap.size=w4.heap.size∧Below w.heap.size w v) 16 ⟨ha.keep (fk rfl (fk rfl (fk rfl (fk rfl fn)))),r1,r2,r3,rfl,u⟩ ?_
 clear a ha
 rintro t a v ht ⟨ha,r1,r2,r3,zv,u⟩
 refine cg_at ha ?_
 clear a ha
 refine Qd ?_
 refine Qd (Qe ?_)
 refine ZM ?_
 refine Zan (y_ilss (t) (16)) [1,2,3,4,12] ?_
 refine cg_cond (decide (t<16)) rfl (fun hlt=>?_) (fun hge=>?_)
 ·have hlt:t<16:=of_decide_eq_true hlt
  refine Zki [1,2,3,4] ?_
  refine Qd (Qj ?_)
  refine cg_tail 31 (by kernel_rfl) (by kernel_rfl) fun W5 hW5=>?_
  have r1:=(show RowAt W5 b1 _ _ from by subst hW5;exact r1)
  have r2:=(show RowAt W5 b2 _ _ from by subst hW5;exact r2)
  have r3:=(show RowAt W5 b3 _ _ from by subst hW5;exact r3)
  have zW5:W5.heap.size=v.heap.size:=by subst hW5;rfl
  have u:Below w.heap.size w W5:=by subst hW5;exact u.drew
  clear hW5
  simp only [List.take_succ_cons,List.take_zero,List.drop_succ_cons,List.drop_zero]
  refine Zsa y_move ?_
  refine Zsa y_move ?_
  refine Zsa (y_imul (4) (t) (by omega) rfl rfl rfl) ?_
  refine Zsa (y_ixa (j:=4*t) huo hsb (by omega) rfl rfl rfl) ?_
  refine Zsa (y_cell r1 (cB_get (by omega)) hub rfl rfl) ?_
  refine Zsa y_bw ?_
  refine Zsa (y_mul (Y:=16777216#32)) ?_
  refine Zsa y_move ?_
  refine Zsa (y_imul (4) (t) (by omega) rfl rfl rfl) ?_
  refine Zsa (y_iadd (4*t) (1) (by omega) rfl rfl rfl) ?_
  refine Zsa (y_ixa (j:=(4*t)+1) huo hsb (by omega) rfl rfl rfl) ?_
  refine Zsa (y_cell r1 (cB_get (by omega)) hub rfl rfl) ?_
  refine Zsa y_bw ?_
  refine Zsa (y_mul (Y:=65536#32)) ?_
  refine Zsa y_add ?_
  refine Zsa y_move ?_
  refine Zsa (y_imul (4) (t) (by omega) rfl rfl rfl) ?_
  refine Zsa (y_iadd (4*t) (2) (by omega) rfl rfl rfl) ?_
  refine Zsa (y_ixa (j:=(4*t)+2) huo hsb (by omega) rfl rfl rfl) ?_
  refine Zsa (y_cell r1 (cB_get (by omega)) hub rfl rfl) ?_
  refine Zsa y_bw ?_
  refine Zsa (y_mul (Y:=256#32)) ?_
  refine Zsa y_add ?_
  refine Zsa y_move ?_
  refine Zsa (y_imul (4) (t) (by omega) rfl rfl rfl) ?_
  refine Zsa (y_iadd (4*t) (3) (by omega) rfl rfl rfl) ?_
  refine Zsa (y_ixa (j:=(4*t)+3) huo hsb (by omega) rfl rfl rfl) ?_
  refine Zsa (y_cell r1 (cB_get (by omega)) hub rfl rfl) ?_
  refine Zsa y_bw ?_
  refine Zsa y_add ?_
  refine Zsa (y_ixa (j:=t) hu64 hsw (by omega) rfl rfl rfl) ?_
  refine sg_lg ?_
  refine lg_store r3 (by rw [cW_size];omega) rfl rfl rfl rfl hsw rfl rfl fun w6 sw6=>?_
  rw [cW_set] at sw6
  have r1:=sw6.keep r1 (by omega)
  have r2:=sw6.keep r2 (by omega)
  have r3:=sw6.row
  have zw6:=sw6.size
  have u:Below w.heap.size w w6:=u.trans (sw6.below _ (by omega))
  rw [wd_sum] at r3
  refine Qk (nxb (E':=[(1,_),(2,_),(3,_),(4,_)]) (fk rfl (fk rfl (fk rfl (fk rfl fn)))) ?_)
  refine Qe ?_
  refine ZM ?_
  refine Za (y_iadd (t) (1) (by omega) rfl rfl rfl) ?_
  refine ZA ?_
  exact Qk fun a ha=>(show t<16∧_ from ⟨hlt,ha.keep (fk rfl (fk rfl (fk rfl (fk rfl fn)))),r1,r2,r3,by omega,u⟩)
 have hge:=of_decide_eq_false hge
 obtain rfl:t=16:=by omega
 refine cg_exit (ex_out ?_)
 refine Nx [1,2,3] ?_
 refine Qd ?_
 refine Qd (Qe ?_)
 refine Zan (y_assign (v:=iv 16)) [1,2,3,5] ?_
 clear ht hge
 have zq:=zv
 clear zv
 refine Qj fun a ha=>?_
 refine cg_loop (fun k a v=>Holds 90 [(1,pv b1 0),(2,pv b2 0),(3,pv b3 0),(5,iv (16+k))] a∧RowAt v b1 154 (cB 64 b)∧RowAt v b2 179 (cW 64 fun _=>0)∧RowAt v b3 179 (cW 64 (tailF b k))∧v.heap.size=w4.heap.size∧Below w.heap.size w v) 48 ⟨ha.keep (fk rfl (fk rfl (fk rfl (fk rfl fn)))),r1,r2,r3,zq,u⟩ ?_
 clear a ha
 rintro k a v ht ⟨ha,r1,r2,r3,zv,u⟩
 refine cg_at ha ?_
 clear a ha
 refine Qd ?_
 refine Qd (Qe ?_)
 refine ZM ?_
 refine Zan (y_ilss (16+k) (64)) [1,2,3,5,47] ?_
 refine cg_cond (decide (16+k<64)) rfl (fun hlt=>?_) (fun hge=>?_)
 ·have hlt:16+k<64:=of_decide_eq_true hlt
  refine Zki [1,2,3,5] ?_
  refine Qd (Qj ?_)
  refine Qd (Qe ?_)
  refine ZM ?_
  refine Za (y_isub (16+k) (15) (by omega) (by omega) rfl rfl rfl) ?_
  refine Za (y_ixa (j:=(16+k)-15) hu64 hsw (by omega) rfl rfl rfl) ?_
  refine Za (y_cell r3 (cW_get (by omega)) huw rfl rfl) ?_
  refine ZAn [1,2,3,5,6] ?_
  refine Qd (Qe ?_)
  refine ZM ?_
  refine Za (y_isub (16+k) (2) (by omega) (by omega) rfl rfl rfl) ?_
  refine Za (y_ixa (j:=(16+k)-2) hu64 hsw (by omega) rfl rfl rfl) ?_
  refine Za (y_cell r3 (cW_get (by omega)) huw rfl rfl) ?_
  refine ZAn [1,2,3,5,6,7] ?_
  refine Qd (Qe ?_)
  refine ZM ?_
  refine Za (Qp (rturned_any _ 7 (by decide) (by decide) _) (by kernel_rfl) rfl rfl) ?_
  refine ZM ?_
  refine Za (Qp (rturned_any _ 18 (by decide) (by decide) _) (by kernel_rfl) rfl rfl) ?_
  refine Za y_xor ?_
  refine ZM ?_
  refine Za (Qp (rmoved_any _ 3 (by decide) (by decide) _) (by kernel_rfl) rfl rfl) ?_
  refine Za y_xor ?_
  refine ZAn [1,2,3,5,7,8] ?_
  refine Qd (Qe ?_)
  refine ZM ?_
  refine Za (Qp (rturned_any _ 17 (by decide) (by decide) _) (by kernel_rfl) rfl rfl) ?_
  refine ZM ?_
  refine Za (Qp (rturned_any _ 19 (by decide) (by decide) _) (by kernel_rfl) rfl rfl) ?_
  refine Za y_xor ?_
  refine ZM ?_
  refine Za (Qp (rmoved_any _ 10 (by decide) (by decide) _) (by kernel_rfl) rfl rfl) ?_
  refine Za y_xor ?_
  refine ZAn [1,2,3,5,8,9] ?_
  refine cg_tail 15 (by kernel_rfl) (by kernel_rfl) fun W5 hW5=>?_
  have r1:=(show RowAt W5 b1 _ _ from by subst hW5;exact r1)
  have r2:=(show RowAt W5 b2 _ _ from by subst hW5;exact r2)
  have r3:=(show RowAt W5 b3 _ _ from by subst hW5;exact r3)
  have zW5:W5.heap.size=v.heap.size:=by subst hW5;rfl
  have u:Below w.heap.size w W5:=by subst hW5;exact u.drew
  clear hW5
  simp only [List.take_succ_cons,List.take_zero,List.drop_succ_cons,List.drop_zero]
  refine Zsa y_move ?_
  refine Zsa y_move ?_
  refine Zsa (y_isub (16+k) (16) (by omega) (by omega) rfl rfl rfl) ?_
  refine Zsa (y_ixa (j:=(16+k)-16) hu64 hsw (by omega) rfl rfl rfl) ?_
  refine Zsa (y_cell r3 (cW_get (by omega)) huw rfl rfl) ?_
  refine Zsa y_move ?_
  refine Zsa y_add ?_
  refine Zsa y_move ?_
  refine Zsa (y_isub (16+k) (7) (by omega) (by omega) rfl rfl rfl) ?_
  refine Zsa (y_ixa (j:=(16+k)-7) hu64 hsw (by omega) rfl rfl rfl) ?_
  refine Zsa (y_cell r3 (cW_get (by omega)) huw rfl rfl) ?_
  refine Zsa y_add ?_
  refine Zsa y_move ?_
  refine Zsa y_add ?_
  refine Zsa (y_ixa (j:=16+k) hu64 hsw (by omega) rfl rfl rfl) ?_
  refine sg_lg ?_
  refine lg_store r3 (by rw [cW_size];omega) rfl rfl rfl rfl hsw rfl rfl fun w6 sw6=>?_
  rw [cW_set] at sw6
  have r1:=sw6.keep r1 (by omega)
  have r2:=sw6.keep r2 (by omega)
  have r3:=sw6.row
  have zw6:=sw6.size
  have u:Below w.heap.size w w6:=u.trans (sw6.below _ (by omega))
  refine Qk (nxb (E':=[(1,_),(2,_),(3,_),(5,_)]) (fk rfl (fk rfl (fk rfl (fk rfl fn)))) ?_)
  refine Qe ?_
  refine ZM ?_
  refine Za (y_iadd (16+k) (1) (by omega) rfl rfl rfl) ?_
  refine ZA ?_
  exact Qk fun a ha=>(show k<48∧_ from ⟨by omega,ha.keep (fk rfl (fk rfl (fk rfl (fk rfl fn)))),r1,r2,r3,by omega,u⟩)
 have hge:=of_decide_eq_false hge
 obtain rfl:k=48:=by omega
 refine cg_exit (ex_out ?_)
 refine Nx [2,3] ?_
 refine Qd (Qe ?_)
 refine Za (y_row r3 hu64 (hs64 _)) ?_
 refine lg_store_row r2 rfl rfl rfl (hs64 _) (by simp only [cW_size]) (cW_one _ _) rfl rfl fun w5 sw5=>?_
 have r1:=sw5.keep r1 (by omega)
 have r2:=sw5.row
 have r3:=sw5.keep r3 (by omega)
 have zw5:=sw5.size
 have u:Below w.heap.size w w5:=u.trans (sw5.below _ (by omega))
 refine Zn [2] ?_
 exact ret_row rfl rfl r2 hu64 (hs64 _) ⟨_,rfl,rfl,u⟩
def stepR (h:Nat→BitVec 32) (k s:BitVec 32):Nat→BitVec 32 :=
 st8 ((h 7+bigE (h 4)+chw (h 4) (h 5) (h 6)+k+s)+pQ h) (h 0) (h 1) (h 2) (h 3+(h 7+bigE (h 4)+chw (h 4) (h 5) (h 6)+k+s)) (h 4) (h 5) (h 6)
theorem stepR_eq (h:Nat→BitVec 32) (k s:BitVec 32):stepR h k s=stepF h (k+s):=by
 unfold stepR stepF pP
 rw [BitVec.add_assoc (h 7+bigE (h 4)+chw (h 4) (h 5) (h 6)) k s]
def gR (h V:Nat→BitVec 32):Nat→Nat→BitVec 32
 | 0=>h
 | i+1=>upd (gR h V i) i (h i+V i)
theorem gR_eq (h V:Nat→BitVec 32):∀ i,i<8→gR h V 8 i=(fun i=>h i+V i) i:=by
 have key:∀ n i,gR h V n i=if i<n then h i+V i else h i:=by
  intro n
  induction n with
  | zero=>intro i;simp [gR]
  | succ n ih =>
   intro i
   simp only [gR,upd,ih]
   by_cases e:i=n
   ·subst e;simp
   by_cases l:i<n
   ·simp [e,l,show i<n+1 by omega]
   simp [e,l,show ¬i<n+1 by omega]
 intro i hi
 rw [key,if_pos hi]
theorem rmix_any (h:Nat→BitVec 32) (b:Nat→BitVec 8) (w:World):Calls Tryz.prog 181 #[.agg (cW 8 h),.agg (cB 64 b)] w fun e w'=>∃ v,e=.returned v∧v=.agg (cW 8 (mixF h b))∧Below w.heap.size w w':=by
 refine Qf (n:=117) Tryz.func181 rfl Tryz.ntmps181 (by simp) ?_
 show CG _ _ _ [(0,.agg (cW 8 h)),(1,.agg (cB 64 b))] _ _
 have u:=Below.refl w.heap.size w
 refine Qd (Qe ?_)
 refine lg_box rfl rfl (hs8 _) rfl rfl (by decide) fun b1 w1 n1=>?_
 have r1:=n1.row
 have k1:=n1.blk
 have z1:=n1.size
 have u:Below w.heap.size w w1:=u.trans (n1.below.mono u.size)
 refine lg_box rfl rfl (hso _) rfl rfl (by decide) fun b2 w2 n2=>?_
 have r1:=n2.keep r1
 have r2:=n2.row
 have k2:=n2.blk
 have z2:=n2.size
 have u:Below w.heap.size w w2:=u.trans (n2.below.mono u.size)
 refine lg_alloc rfl hz8 rfl rfl (by decide) fun b3 w3 n3=>?_
 have r1:=n3.keep r1
 have r2:=n3.keep r2
 have r3:=n3.row
 have k3:=n3.blk
 have z3:=n3.size
 have u:Below w.heap.size w w3:=u.trans (n3.below.mono u.size)
 refine Zn [2,3,4] ?_
 refine Qd (Qe ?_)
 refine Za (y_row r2 huo (hso _)) ?_
 refine lg_call (rspread_any _ _) (by kernel_rfl) rfl rfl rfl rfl (by decide) ?_
 rintro _ w4 ⟨rfl,hw4⟩
 have r1:=r1.below hw4 r1.lt
 have r2:=r2.below hw4 r2.lt
 have r3:=r3.below hw4 r3.lt
 have zw4:=hw4.size
 have u:Below w.heap.size w w4:=u.trans (hw4.mono u.size)
 refine lg_alloc rfl hz64 rfl rfl (by decide) fun b5 w5 n5=>?_
 have r1:=n5.keep r1
 have r2:=n5.keep r2
 have r3:=n5.keep r3
 have r5:=n5.row
 have k5:=n5.blk
 have z5:=n5.size
 have u:Below w.heap.size w w5:=u.trans (n5.below.mono u.size)
 refine lg_store_row r5 rfl rfl rfl (hs64 _) (by simp only [cW_size]) (cW_one _ _) rfl rfl fun w6 sw6=>?_
 have r1:=sw6.keep r1 (by omega)
 have r2:=sw6.keep r2 (by omega)
 have r3:=sw6.keep r3 (by omega)
 have r5:=sw6.row
 have zw6:=sw6.size
 have u:Below w.heap.size w w6:=u.trans (sw6.below _ (by omega))
 refine Zn [2,4,5] ?_
 refine Qd (Qe ?_)
 refine lg_call (rnumbers_any _) (by kernel_rfl) rfl rfl rfl rfl (by decide) ?_
 rintro _ w7 ⟨b7,rfl,r7,k7,hw7⟩
 have r1:=r1.below hw7 r1.lt
 have r2:=r2.below hw7 r2.lt
 have r3:=r3.below hw7 r3.lt
 have r5:=r5.below hw7 r5.lt
 have zw7:=hw7.size
 have k7q:=r7.lt
 have u:Below w.heap.size w w7:=u.trans (hw7.mono u.size)
 refine ZAn [2,4,5,6] ?_
 refine Qd (Qe ?_)
 refine Za (y_row r1 hu8 (hs8 _)) ?_
 refine lg_alloc rfl hz8 rfl rfl (by decide) fun b8 w8 n8=>?_
 have r1:=n8.keep r1
 have r2:=n8.keep r2
 have r3:=n8.keep r3
 have r5:=n8.keep r5
 have r7:=n8.keep r7
 have r8:=n8.row
 have k8:=n8.blk
 have z8:=n8.size
 have u:Below w.heap.size w w8:=u.trans (n8.below.mono u.size)
 refine lg_store_row r8 rfl rfl rfl (hs8 _) (by simp only [cW_size]) (cW_one _ _) rfl rfl fun w9 sw9=>?_
 have r1:=sw9.keep r1 (by omega)
 have r2:=sw9.keep r2 (by omega)
 have r3:=sw9.keep r3 (by omega)
 have r5:=sw9.keep r5 (by omega)
 have r7:=sw9.keep r7 (by omega)
 have r8:=sw9.row
 have zw9:=sw9.size
 have u:Below w.heap.size w w9:=u.trans (sw9.below _ (by omega))
 refine Zn [2,4,5,6,7] ?_
 refine Qd ?_
 refine Qd (Qe ?_)
 refine Zan (y_assign (v:=iv 0)) [2,4,5,6,7,8] ?_
 refine Qj fun a ha=>?_
 refine cg_loop (fun t a v=>Holds 117 [(2,pv b1 0),(4,pv b3 0),(5,pv b5 0),(6,.slice (some ⟨b7,0,none⟩) 64 64),(7,pv b8 0),(8,iv t)] a∧RowAt v b1 133 (cW 8 h)∧RowAt v b3 133 (cW 8 fun _=>0)∧RowAt v b5 179 (cW 64 (spr b))∧RowAt v b7 132 (cW 64 num)∧RowAt v b8 133 (cW 8 (vF h b t))∧v.heap.size=w9.heap.size∧Below w.heap.size w v) 64 ⟨ha.keep (fk rfl (fk rfl (fk rfl (fk rfl (fk rfl (fk rfl fn)))))),r1,r3,r5,r7,r8,rfl,u⟩ ?_
 clear a ha
 rintro t a v ht ⟨ha,r1,r3,r5,r7,r8,zv,u⟩
 refine cg_at ha ?_
 clear a ha
 refine Qd ?_
 refine Qd (Qe ?_)
 refine ZM ?_
 refine Zan (y_ilss (t) (64)) [2,4,5,6,7,8,20] ?_
 refine cg_cond (decide (t<64)) rfl (fun hlt=>?_) (fun hge=>?_)
 ·have hlt:t<64:=of_decide_eq_true hlt
  refine Zki [2,4,5,6,7,8] ?_
  refine Qd (Qj ?_)
  refine Qd (Qe ?_)
  refine Za (y_ixa (j:=4) hu8 hsw (by omega) rfl rfl rfl) ?_
  refine Za (y_cell r8 (cW_get (by omega)) huw rfl rfl) ?_
  refine ZAn [2,4,5,6,7,8,9] ?_
  refine Qd (Qe ?_)
  refine Za (y_ixa (j:=0) hu8 hsw (by omega) rfl rfl rfl) ?_
  refine Za (y_cell r8 (cW_get (by omega)) huw rfl rfl) ?_
  refine ZAn [2,4,5,6,7,8,9,10] ?_
  refine Qd (cg_still (by kernel_rfl) (by kernel_rfl) fun W10 hW10=>?_)
  have r1:=(show RowAt W10 b1 _ _ from by subst hW10;exact r1)
  have r3:=(show RowAt W10 b3 _ _ from by subst hW10;exact r3)
  have r5:=(show RowAt W10 b5 _ _ from by subst hW10;exact r5)
  have r7:=(show RowAt W10 b7 _ _ from by subst hW10;exact r7)
  have r8:=(show RowAt W10 b8 _ _ from by subst hW10;exact r8)
  have zW10:W10.heap.size=v.heap.size:=by subst hW10;rfl
  have u:Below w.heap.size w W10:=by subst hW10;exact u.drew
  clear hW10
  refine Zsa (y_ixa (j:=7) hu8 hsw (by omega) rfl rfl rfl) ?_
  refine Zsa (y_cell r8 (cW_get (by omega)) huw rfl rfl) ?_
  refine Zsa y_move ?_
  refine Zsa (Qp (rturned_any _ 6 (by decide) (by decide) _) (by kernel_rfl) rfl rfl) ?_
  refine Zsa y_move ?_
  refine Zsa (Qp (rturned_any _ 11 (by decide) (by decide) _) (by kernel_rfl) rfl rfl) ?_
  refine Zsa y_xor ?_
  refine Zsa y_move ?_
  refine Zsa (Qp (rturned_any _ 25 (by decide) (by decide) _) (by kernel_rfl) rfl rfl) ?_
  refine Zsa y_xor ?_
  refine Zsa y_add ?_
  refine Zsa y_move ?_
  refine Zsa (y_ixa (j:=5) hu8 hsw (by omega) rfl rfl rfl) ?_
  refine Zsa (y_cell r8 (cW_get (by omega)) huw rfl rfl) ?_
  refine Zsa (y_and rfl rfl rfl) ?_
  refine Zsa y_move ?_
  refine Zsa (y_not rfl rfl) ?_
  refine Zsa (y_ixa (j:=6) hu8 hsw (by omega) rfl rfl rfl) ?_
  refine Zsa (y_cell r8 (cW_get (by omega)) huw rfl rfl) ?_
  refine Zsa (y_and rfl rfl rfl) ?_
  refine Zsa y_or ?_
  refine Zsa y_add ?_
  refine Zsa y_move ?_
  refine Zsa y_move ?_
  refine Zsa (y_ixs (j:=t) hus hsw (by omega) rfl rfl rfl) ?_
  refine Zsa (y_cell r7 (cW_get (by omega)) huw rfl rfl) ?_
  refine Zsa y_add ?_
  refine Zsa y_move ?_
  refine Zsa (y_ixa (j:=t) hu64 hsw (by omega) rfl rfl rfl) ?_
  refine Zsa (y_cell r5 (cW_get (by omega)) huw rfl rfl) ?_
  refine Zsa y_add ?_
  refine Zsa y_assign ?_
  refine Zsn [2,4,5,6,7,8,10,11] ?_
  refine Qd (cg_still (by kernel_rfl) (by kernel_rfl) fun W11 hW11=>?_)
  have r1:=(show RowAt W11 b1 _ _ from by subst hW11;exact r1)
  have r3:=(show RowAt W11 b3 _ _ from by subst hW11;exact r3)
  have r5:=(show RowAt W11 b5 _ _ from by subst hW11;exact r5)
  have r7:=(show RowAt W11 b7 _ _ from by subst hW11;exact r7)
  have r8:=(show RowAt W11 b8 _ _ from by subst hW11;exact r8)
  have zW11:W11.heap.size=W10.heap.size:=by subst hW11;rfl
  have u:Below w.heap.size w W11:=by subst hW11;exact u.drew
  clear hW11
  refine Zsa y_move ?_
  refine Zsa (Qp (rturned_any _ 2 (by decide) (by decide) _) (by kernel_rfl) rfl rfl) ?_
  refine Zsa y_move ?_
  refine Zsa (Qp (rturned_any _ 13 (by decide) (by decide) _) (by kernel_rfl) rfl rfl) ?_
  refine Zsa y_xor ?_
  refine Zsa y_move ?_
  refine Zsa (Qp (rturned_any _ 22 (by decide) (by decide) _) (by kernel_rfl) rfl rfl) ?_
  refine Zsa y_xor ?_
  refine Zsa y_move ?_
  refine Zsa (y_ixa (j:=1) hu8 hsw (by omega) rfl rfl rfl) ?_
  refine Zsa (y_cell r8 (cW_get (by omega)) huw rfl rfl) ?_
  refine Zsa (y_and rfl rfl rfl) ?_
  refine Zsa y_move ?_
  refine Zsa (y_ixa (j:=2) hu8 hsw (by omega) rfl rfl rfl) ?_
  refine Zsa (y_cell r8 (cW_get (by omega)) huw rfl rfl) ?_
  refine Zsa (y_and rfl rfl rfl) ?_
  refine Zsa y_or ?_
  refine Zsa (y_ixa (j:=1) hu8 hsw (by omega) rfl rfl rfl) ?_
  refine Zsa (y_cell r8 (cW_get (by omega)) huw rfl rfl) ?_
  refine Zsa (y_ixa (j:=2) hu8 hsw (by omega) rfl rfl rfl) ?_
  refine Zsa (y_cell r8 (cW_get (by omega)) huw rfl rfl) ?_
  refine Zsa (y_and rfl rfl rfl) ?_
  refine Zsa y_or ?_
  refine Zsa y_add ?_
  refine Zsa y_assign ?_
  refine Zsn [2,4,5,6,7,8,11,12] ?_
  refine Qe ?_
  refine ZM ?_
  refine ZM ?_
  refine Za y_add ?_
  refine Za (y_ixa (j:=0) hu8 hsw (by omega) rfl rfl rfl) ?_
  refine Za (y_cell r8 (cW_get (by omega)) huw rfl rfl) ?_
  refine Za (y_ixa (j:=1) hu8 hsw (by omega) rfl rfl rfl) ?_
  refine Za (y_cell r8 (cW_get (by omega)) huw rfl rfl) ?_
  refine Za (y_ixa (j:=2) hu8 hsw (by omega) rfl rfl rfl) ?_
  refine Za (y_cell r8 (cW_get (by omega)) huw rfl rfl) ?_
  refine Za (y_ixa (j:=3) hu8 hsw (by omega) rfl rfl rfl) ?_
  refine Za (y_cell r8 (cW_get (by omega)) huw rfl rfl) ?_
  refine ZM ?_
  refine Za y_add ?_
  refine Za (y_ixa (j:=4) hu8 hsw (by omega) rfl rfl rfl) ?_
  refine Za (y_cell r8 (cW_get (by omega)) huw rfl rfl) ?_
  refine Za (y_ixa (j:=5) hu8 hsw (by omega) rfl rfl rfl) ?_
  refine Za (y_cell r8 (cW_get (by omega)) huw rfl rfl) ?_
  refine Za (y_ixa (j:=6) hu8 hsw (by omega) rfl rfl rfl) ?_
  refine Za (y_cell r8 (cW_get (by omega)) huw rfl rfl) ?_
  refine Za (y_build (cs:=cW 8 (stepR (vF h b t) (num t) (spr b t)))) ?_
  refine lg_store_row r8 rfl rfl rfl (hs8 _) (by simp only [cW_size]) (cW_one _ _) rfl rfl fun w12 sw12=>?_
  have r1:=sw12.keep r1 (by omega)
  have r3:=sw12.keep r3 (by omega)
  have r5:=sw12.keep r5 (by omega)
  have r7:=sw12.keep r7 (by omega)
  have r8:=sw12.row
  have zw12:=sw12.size
  have u:Below w.heap.size w w12:=u.trans (sw12.below _ (by omega))
  rw [stepR_eq] at r8
  refine Qk (nxb (E':=[(2,_),(4,_),(5,_),(6,_),(7,_),(8,_)]) (fk rfl (fk rfl (fk rfl (fk rfl (fk rfl (fk rfl fn)))))) ?_)
  refine Qe ?_
  refine ZM ?_
  refine Za (y_iadd (t) (1) (by omega) rfl rfl rfl) ?_
  refine ZA ?_
  exact Qk fun a ha=>(show t<64∧_ from ⟨hlt,ha.keep (fk rfl (fk rfl (fk rfl (fk rfl (fk rfl (fk rfl fn)))))),r1,r3,r5,r7,r8,by omega,u⟩)
 have hge:=of_decide_eq_false hge
 obtain rfl:t=64:=by omega
 refine cg_exit (ex_out ?_)
 refine Nx [2,4,7] ?_
 refine Qd (Qe ?_)
 refine Za (y_row r1 hu8 (hs8 _)) ?_
 refine lg_alloc rfl hz8 rfl rfl (by decide) fun b10 w10 n10=>?_
 have r1:=n10.keep r1
 have r3:=n10.keep r3
 have r5:=n10.keep r5
 have r7:=n10.keep r7
 have r8:=n10.keep r8
 have r10:=n10.row
 have k10:=n10.blk
 have z10:=n10.size
 have u:Below w.heap.size w w10:=u.trans (n10.below.mono u.size)
 refine lg_store_row r10 rfl rfl rfl (hs8 _) (by simp only [cW_size]) (cW_one _ _) rfl rfl fun w11 sw11=>?_
 have r1:=sw11.keep r1 (by omega)
 have r3:=sw11.keep r3 (by omega)
 have r5:=sw11.keep r5 (by omega)
 have r7:=sw11.keep r7 (by omega)
 have r8:=sw11.keep r8 (by omega)
 have r10:=sw11.row
 have zw11:=sw11.size
 have u:Below w.heap.size w w11:=u.trans (sw11.below _ (by omega))
 refine Zn [2,4,7,13] ?_
 refine Qd ?_
 refine Qd (Qe ?_)
 refine Zan (y_assign (v:=iv 0)) [2,4,7,13,14] ?_
 clear ht hge
 have zq:=zv
 clear zv
 have zr:w11.heap.size=w11.heap.size:=rfl
 refine Qj fun a ha=>?_
 refine cg_loop (fun i a v=>Holds 117 [(2,pv b1 0),(4,pv b3 0),(7,pv b8 0),(13,pv b10 0),(14,iv i)] a∧RowAt v b1 133 (cW 8 h)∧RowAt v b3 133 (cW 8 fun _=>0)∧RowAt v b8 133 (cW 8 (vF h b 64))∧RowAt v b10 133 (cW 8 (gR h (vF h b 64) i))∧v.heap.size=w11.heap.size∧Below w.heap.size w v) 8 ⟨ha.keep (fk rfl (fk rfl (fk rfl (fk rfl (fk rfl fn))))),r1,r3,r8,r10,rfl,u⟩ ?_
 clear a ha
 rintro i a v ht ⟨ha,r1,r3,r8,r10,zv,u⟩
 refine cg_at ha ?_
 clear a ha
 refine Qd ?_
 refine Qd (Qe ?_)
 refine ZM ?_
 refine Zan (y_ilss (i) (8)) [2,4,7,13,14,104] ?_
 refine cg_cond (decide (i<8)) rfl (fun hlt=>?_) (fun hge=>?_)
 ·have hlt:i<8:=of_decide_eq_true hlt
  refine Zki [2,4,7,13,14] ?_
  refine Qd (Qj ?_)
  refine cg_tail 9 (by kernel_rfl) (by kernel_rfl) fun W12 hW12=>?_
  have r1:=(show RowAt W12 b1 _ _ from by subst hW12;exact r1)
  have r3:=(show RowAt W12 b3 _ _ from by subst hW12;exact r3)
  have r8:=(show RowAt W12 b8 _ _ from by subst hW12;exact r8)
  have r10:=(show RowAt W12 b10 _ _ from by subst hW12;exact r10)
  have zW12:W12.heap.size=v.heap.size:=by subst hW12;rfl
  have u:Below w.heap.size w W12:=by subst hW12;exact u.drew
  clear hW12
  simp only [List.take_succ_cons,List.take_zero,List.drop_succ_cons,List.drop_zero]
  refine Zsa y_move ?_
  refine Zsa y_move ?_
  refine Zsa (y_ixa (j:=i) hu8 hsw (by omega) rfl rfl rfl) ?_
  refine Zsa (y_cell r1 (cW_get (by omega)) huw rfl rfl) ?_
  refine Zsa y_move ?_
  refine Zsa (y_ixa (j:=i) hu8 hsw (by omega) rfl rfl rfl) ?_
  refine Zsa (y_cell r8 (cW_get (by omega)) huw rfl rfl) ?_
  refine Zsa y_add ?_
  refine Zsa (y_ixa (j:=i) hu8 hsw (by omega) rfl rfl rfl) ?_
  refine sg_lg ?_
  refine lg_store r10 (by rw [cW_size];omega) rfl rfl rfl rfl hsw rfl rfl fun w13 sw13=>?_
  rw [cW_set] at sw13
  have r1:=sw13.keep r1 (by omega)
  have r3:=sw13.keep r3 (by omega)
  have r8:=sw13.keep r8 (by omega)
  have r10:=sw13.row
  have zw13:=sw13.size
  have u:Below w.heap.size w w13:=u.trans (sw13.below _ (by omega))
  refine Qk (nxb (E':=[(2,_),(4,_),(7,_),(13,_),(14,_)]) (fk rfl (fk rfl (fk rfl (fk rfl (fk rfl fn))))) ?_)
  refine Qe ?_
  refine ZM ?_
  refine Za (y_iadd (i) (1) (by omega) rfl rfl rfl) ?_
  refine ZA ?_
  exact Qk fun a ha=>(show i<8∧_ from ⟨hlt,ha.keep (fk rfl (fk rfl (fk rfl (fk rfl (fk rfl fn))))),r1,r3,r8,r10,by omega,u⟩)
 have hge:=of_decide_eq_false hge
 obtain rfl:i=8:=by omega
 refine cg_exit (ex_out ?_)
 refine Nx [4,13] ?_
 refine Qd (Qe ?_)
 refine Za (y_row r10 hu8 (hs8 _)) ?_
 refine lg_store_row r3 rfl rfl rfl (hs8 _) (by simp only [cW_size]) (cW_one _ _) rfl rfl fun w12 sw12=>?_
 have r1:=sw12.keep r1 (by omega)
 have r3:=sw12.row
 have r8:=sw12.keep r8 (by omega)
 have r10:=sw12.keep r10 (by omega)
 have zw12:=sw12.size
 have u:Below w.heap.size w w12:=u.trans (sw12.below _ (by omega))
 refine Zn [4] ?_
 rw [cW_ext (gR_eq h (vF h b 64))] at r3
 exact ret_row rfl rfl r3 hu8 (hs8 _) ⟨_,rfl,rfl,u⟩
end Go.Proofs.YtfdmhdnlmndhdaaGreatDoor
