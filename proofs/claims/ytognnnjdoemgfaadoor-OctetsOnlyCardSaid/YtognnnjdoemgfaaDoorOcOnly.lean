/-
  What is got is put as it was.
-/
import Derived.Test.YtognnnjdoemgfaaDoorOcAwake
import Derived.Test.YtognnnjdoemgfaaDoorTrRef
import Derived.Test.YtognnnjdoemgfaaDoorOcFact
namespace Go.Proofs.YtognnnjdoemgfaaDoor
open Go.ChangeShapes Go.WideShapes Go.ChangeAt Go.RowKit
set_option linter.unusedVariables false

set_option maxRecDepth 20000
set_option maxHeartbeats 4000000 in
theorem octetsOnly_any {W:World} {r:SlV} {xs:List Int} (hb:Sl W W.heap.size r xs) {y:Int} (hy:0≤y∧y≤255) (rg:Tb W):Calls Tryd.prog 3 #[r.v,.int .u8 y] W fun e W'=>∃ v,e=.returned v∧v=.bool true∧Below W.heap.size W W':=by
 refine Qf (n:=101) Tryd.func3 rfl Tryd.ntmps3 (by simp) ?_
 show CG _ _ _ [(0,r.v),(1,.int .u8 y)] _ _
 have u:=Below.refl W.heap.size W
 have q3:=hb.len
 have q4:=hb.cap
 refine ZrA ?_
 refine Zn [0,1,4] ?_
 refine Zr ?_
 refine Zc (awakeO_any _ (rg.up u)) rfl rfl ?_
 rintro _ w1 ⟨rfl,hw1⟩
 have zw1:=hw1.size
 refine ZAn [0,1,4,5] ?_
 refine Qd ?_
 refine ZrM ?_
 have hb:=hb.below (hw1.mono (by omega))
 refine Za (y_lenS (el:=5) hb) ?_
 by_cases c2:20000<(xs.length:Int)
 ·refine Zan (yb (dT c2) yi_gtr) [0,1,4,5,16] ?_
  refine cg_ct rfl ?_
  refine ZrM ?_
  refine ZAnr [0,1,5,4] ?_
  refine Qc ?_
  have u:=Un u hw1
  exact Qa rfl rfl ⟨_,rfl,rfl,u⟩
 refine Zan (yb (dF c2) yi_gtr) [0,1,4,5,16] ?_
 refine Zcf [0,1,4,5] ?_
 refine ZrM ?_
 have u:=Un u hw1
 refine Zc (getO_any (hb.more (B':=w1.heap.size) (by omega)) (Nat.le_refl _) (rg.up u)) rfl rfl ?_
 rintro _ w3 ⟨s3,rfl,m3,hw3⟩
 have zw3:=hw3.size
 refine ZM ?_
 refine Za y_extract ?_
 refine Za y_extract ?_
 refine ZA ?_
 refine ZAn [0,1,4,5,6,7] ?_
 refine Qd ?_
 refine ZrM ?_
 by_cases c4:(ogE xs)=0
 ·have hby:=hb.bytes
  obtain ⟨t1,t2,t3,t4⟩:=og_is hby c4
  have hpos:=(og_size hby c4).1
  have rl:=rootO_le ((ogT xs).length:Int)
  refine Zan (yb (nd_f c4) yi_neq) [0,1,4,5,6,24] ?_
  refine Zcf [0,1,4,5,6] ?_
  refine Zr ?_
  obtain ⟨bs6,hbs6⟩:∃ q,q=w3.heap.size:=⟨_,rfl⟩
  refine lg_bs0 Wn rfl rfl (by decide) fun v5 w5 g5 l5=>?_
  rw [←hbs6] at g5
  have z5:=l5.size
  refine ZM ?_
  have hb:=(hb.below (hw3.mono (by omega))).below (l5.mono (by omega))
  refine lg_appS g5 Bytes.nil hb (by first | omega | (simp only [List.length_nil];omega)) (by omega) Wn rfl rfl rfl rfl rfl (by decide) fun r7 w7 m7 g7 l7 z7=>?_
  simp only [List.nil_append] at m7 g7
  refine ZAn [0,1,4,5,6,8] ?_
  refine ZrM ?_
  refine ZM ?_
  refine lg_bslice (z:=.int .u8 0) (cs:=#[.int .u8 y]) huo24 (by kernel_rfl) (by decide) (by decide) rfl rfl (by kernel_rfl) rfl rfl (by decide) fun b8 w8 n8=>?_
  have r8:=n8.row
  have k8:=n8.blk
  have z8:=n8.size
  have m8:Sl w8 (b8+1) ⟨some ⟨b8,0,none⟩,1,1⟩ [y]:=⟨Nat.le_refl _,of_decide_eq_true (by kernel_rfl),oct_lit r8 rfl (fun z hz=>by obtain rfl:z=y:=(by simpa using hz);exact hy)⟩
  have ly8:([y]:List Int).length=1:=rfl
  have obg7n8:=own_newb n8 g7
  have g7:=own_below g7 n8.below
  refine lg_appS g7 m7.bytes m8 (by first | omega | (simp only [List.length_append,List.length_nil];omega)) (by omega) Wn rfl rfl rfl rfl rfl (by decide) fun r9 w9 m9 g9 l9 z9=>?_
  refine ZAn [0,4,5,6,8] ?_
  refine ZrM ?_
  have u:=Un (Un u hw3) l5
  have u:=u.trans (l7.mono (by omega))
  have u:=Un u n8.below
  have u:=u.trans (l9.mono (by omega))
  refine Zc (getO_any (m9.more (B':=w9.heap.size) (by omega)) (Nat.le_refl _) (rg.up u)) rfl rfl ?_
  rintro _ w10 ⟨s10,rfl,m10,hw10⟩
  have zw10:=hw10.size
  refine ZM ?_
  refine Za y_extract ?_
  refine Za y_extract ?_
  refine ZA ?_
  refine ZAn [0,4,5,6,10] ?_
  refine ZrM ?_
  refine ZM ?_
  have hb:=(hb.below (l7.mono (by omega))).below (n8.below.mono (by omega))
  have hb:=(hb.below (l9.mono (by omega))).below (hw10.mono (by omega))
  refine Za (y_lenS (el:=5) hb) ?_
  refine Za (yv (congrArg nv (show (xs.length:Int)-1=((xs.length-1:Nat):Int) by omega)) (yi_sub rfl rfl rfl (by omega) (by omega))) ?_
  have cu11:=hb.head (((xs.length-1))) (by have q1:=hb.len;have q2:=hb.cap;omega)
  refine Za (y_cutS_h (s:=r) (hi:=(((xs.length-1):Nat):Int)) (((xs.length-1))) (by omega) (by have q1:=hb.len;have q2:=hb.cap;omega) rfl rfl rfl) ?_
  have u:=Un u hw10
  refine Zc (getO_any (cu11.more (B':=w10.heap.size) (by omega)) (Nat.le_refl _) (rg.up u)) rfl rfl ?_
  rintro _ w12 ⟨s12,rfl,m12,hw12⟩
  have zw12:=hw12.size
  refine ZM ?_
  refine Za y_extract ?_
  refine Za y_extract ?_
  refine ZA ?_
  refine ZAn [0,4,5,6,10,12] ?_
  refine Qd ?_
  refine cg_held (by kernel_rfl) fun W13 eW13=>?_
  have dW13:=below_drew _ _ eW13
  have zW13:=size_drew _ _ eW13
  clear eW13
  refine Zh 0 (fun q hq=>y_move rfl rfl) ?_
  refine Zh 1 (fun q hq=>y_move rfl rfl) ?_
  refine Zht 2 53 (fun q hq=>y_move rfl rfl) ?_
  have m3:=(m3.below (l5.mono (by omega))).below (l7.mono (by omega))
  have m3:=(m3.below (n8.below.mono (by omega))).below (l9.mono (by omega))
  have m3:=((m3.below (hw10.mono (by omega))).below (hw12.mono (by omega))).below (dW13.mono (by omega))
  refine Zot 3 53 ?_
  refine Zct 53 (sane_any (m3.more (B':=W13.heap.size) (by omega)) (Nat.le_refl _)) rfl rfl ?_
  rintro u14 w14 ⟨e14,hw14⟩
  have zw14:=hw14.size
  obtain rfl:u14=.bool true:=e14.trans (congrArg Value.bool (decide_eq_true t1))
  refine hg_next hw14 ?_
  refine hg_up hw14 ?_
  refine Zh 4 (fun q hq=>y_pick true rfl rfl rfl) ?_
  refine Zh 5 (fun q hq=>y_move rfl rfl) ?_
  refine Zht 6 57 (fun q hq=>y_move rfl rfl) ?_
  have m3:=m3.below (hw14.mono (by omega))
  refine Zht 7 57 (fun q hq=>y_lenM (el:=40) m3.len (by kernel_rfl) rfl rfl) ?_
  refine Zht 8 57 (fun q hq=>yb (dT (show 0<((ogT xs).length:Int) from (by omega))) (yi_gtr rfl rfl rfl)) ?_
  refine Zh 9 (fun q hq=>y_pick true rfl rfl rfl) ?_
  refine Zh 10 (fun q hq=>y_move rfl rfl) ?_
  refine Zht 11 62 (fun q hq=>y_move rfl rfl) ?_
  have u:=Un (Un (Un u hw12) dW13) hw14
  refine Zot 12 62 ?_
  refine Zct 62 (namedO_any (m3.more (B':=w14.heap.size) (by omega)) (Nat.le_refl _) (rg.up u)) rfl rfl ?_
  rintro u15 w15 ⟨e15,hw15⟩
  have zw15:=hw15.size
  obtain rfl:u15=.bool true:=e15.trans (congrArg Value.bool (decide_eq_true t3))
  refine hg_next hw15 ?_
  refine hg_up hw15 ?_
  refine Zh 13 (fun q hq=>y_pick true rfl rfl rfl) ?_
  refine Zh 14 (fun q hq=>y_move rfl rfl) ?_
  refine Zht 15 66 (fun q hq=>y_move rfl rfl) ?_
  have m3:=m3.below (hw15.mono (by omega))
  refine Zot 16 66 ?_
  refine Zct 66 (leavesT_any (m3.more (B':=w15.heap.size) (by omega)) (Nat.le_refl _)) rfl rfl ?_
  rintro _ w16 ⟨rfl,hw16⟩
  have zw16:=hw16.size
  refine hg_next hw16 ?_
  refine hg_up hw16 ?_
  refine Zht 17 66 (fun q hq=>yb (dT (show ((leavesA (trAs (ogT xs)):Nat):Int)≤64 from (by omega))) (yi_leq rfl rfl rfl)) ?_
  refine Zh 18 (fun q hq=>y_pick true rfl rfl rfl) ?_
  refine Zh 19 (fun q hq=>y_move rfl rfl) ?_
  refine Zht 20 71 (fun q hq=>y_move rfl rfl) ?_
  refine Zht 23 71 (fun q hq=>y_move rfl rfl) ?_
  have hb:=(hb.below (hw12.mono (by omega))).below (dW13.mono (by omega))
  have hb:=((hb.below (hw14.mono (by omega))).below (hw15.mono (by omega))).below (hw16.mono (by omega))
  have by17:Bytes xs:=hb.bytes
  refine Zht 24 71 (fun q hq=>y_strS (hb.below (hq.mono (by omega))) rfl rfl) ?_
  have m3:=m3.below (hw16.mono (by omega))
  refine Zot 21 71 ?_
  refine Zct 71 (putO_any (m3.more (B':=w16.heap.size) (by omega)) (Nat.le_refl _)) rfl rfl ?_
  rintro _ w18 ⟨r18,rfl,m18,hw18⟩
  have zw18:=hw18.size
  refine hg_next hw18 ?_
  refine hg_up hw18 ?_
  have by19:Bytes (opL (trAs (ogT xs))):=m18.bytes
  refine Zht 22 71 (fun q hq=>y_strS (m18.below (hq.mono (by omega))) rfl rfl) ?_
  refine Zht 25 71 (fun q hq=>yb (dT (show (opL (trAs (ogT xs)))=xs from (og_put hby c4))) (y_seqS (xs:=(opL (trAs (ogT xs)))) (ys:=xs) by19 by17 rfl rfl rfl)) ?_
  refine Zh 26 (fun q hq=>y_pick true rfl rfl rfl) ?_
  refine Zh 27 (fun q hq=>y_move rfl rfl) ?_
  refine Zht 28 79 (fun q hq=>y_move rfl rfl) ?_
  have m3:=m3.below (hw18.mono (by omega))
  refine Zht 29 79 (fun q hq=>y_lenM (el:=40) m3.len (by kernel_rfl) rfl rfl) ?_
  by_cases c20:((ogT xs).length:Int)=1
  ·refine Zht 30 79 (fun q hq=>yb (dT c20) (yi_eql rfl rfl rfl)) ?_
   refine Zht 31 79 (fun q hq=>y_move rfl rfl) ?_
   refine hg_skip 32 (by rfl) (want_f (dj:=83) (by rfl) (by kernel_rfl) rfl) rfl (by decide) (by kernel_rfl) (by kernel_rfl) (by kernel_rfl) (fun _ _ _ h=>h) (Below.refl _ _) ?_
   refine hg_skip 33 (by rfl) (want_f (dj:=83) (by rfl) (by kernel_rfl) rfl) rfl (by decide) (by kernel_rfl) (by kernel_rfl) (by kernel_rfl) (fun _ _ _ h=>h) (Below.refl _ _) ?_
   refine hg_skip 34 (by rfl) (want_f (dj:=83) (by rfl) (by kernel_rfl) rfl) rfl (by decide) (by kernel_rfl) (by kernel_rfl) (by kernel_rfl) (fun _ _ _ h=>h) (Below.refl _ _) ?_
   refine hg_skip 35 (by rfl) (want_f (dj:=83) (by rfl) (by kernel_rfl) rfl) rfl (by decide) (by kernel_rfl) (by kernel_rfl) (by kernel_rfl) (fun _ _ _ h=>h) (Below.refl _ _) ?_
   refine hg_skip1 36 (Below.refl _ _) (by rfl) (want_f (dj:=83) (by rfl) (by kernel_rfl) rfl) rfl (by decide) (by kernel_rfl) ?_
   refine hg_skip 37 (by rfl) (want_f (dj:=83) (by rfl) (by kernel_rfl) rfl) rfl (by decide) (by kernel_rfl) (by kernel_rfl) (by kernel_rfl) (fun _ _ _ h=>h) (Below.refl _ _) ?_
   refine hg_skip 38 (by rfl) (want_f (dj:=83) (by rfl) (by kernel_rfl) rfl) rfl (by decide) (by kernel_rfl) (by kernel_rfl) (by kernel_rfl) (fun _ _ _ h=>h) (Below.refl _ _) ?_
   refine Zht 39 79 (fun q hq=>y_pick true rfl rfl rfl) ?_
   refine Zh 40 (fun q hq=>y_pick true rfl rfl rfl) ?_
   refine Zh 41 (fun q hq=>y_move rfl rfl) ?_
   refine Zht 42 93 (fun q hq=>y_move rfl rfl) ?_
   refine Zht 43 93 (fun q hq=>yb (dT (show (ogE (xs++([y]:List Int)))=2 from (og_long hby c4 y))) (yi_eql rfl rfl rfl)) ?_
   refine Zh 44 (fun q hq=>y_pick true rfl rfl rfl) ?_
   refine Zh 45 (fun q hq=>y_move rfl rfl) ?_
   refine Zht 46 97 (fun q hq=>y_move rfl rfl) ?_
   refine Zht 47 97 (fun q hq=>yb (dT (show (ogE (xs.take (((xs.length-1)))))=1 from (og_short hby c4))) (yi_eql rfl rfl rfl)) ?_
   refine Zh 48 (fun q hq=>y_pick true rfl rfl rfl) ?_
   refine Zh 49 (fun q hq=>y_assign rfl rfl) ?_
   refine hg_done (by kernel_rfl) ?_
   refine Nx [4] ?_
   refine cg_ret ?_
   have u:=Un (Un (Un u hw15) hw16) hw18
   exact Qa rfl rfl ⟨_,rfl,rfl,u⟩
  refine Zht 30 79 (fun q hq=>yb (dF c20) (yi_eql rfl rfl rfl)) ?_
  refine Zht 31 79 (fun q hq=>y_move rfl rfl) ?_
  refine Zht 32 83 (fun q hq=>y_move rfl rfl) ?_
  refine Zht 34 83 (fun q hq=>y_move rfl rfl) ?_
  refine Zht 35 83 (fun q hq=>y_lenM (el:=40) m3.len (by kernel_rfl) rfl rfl) ?_
  refine Zot 33 83 ?_
  refine Zct 83 (last_any (m3.more (B':=w18.heap.size) (by omega)) (Nat.le_refl _)) rfl rfl ?_
  rintro _ w21 ⟨rfl,hw21⟩
  have zw21:=hw21.size
  refine hg_next hw21 ?_
  refine hg_up hw21 ?_
  refine Zot 36 83 ?_
  refine Zt 83 (Qp (rootL ((ogT xs).length:Int) _)) ?_
  refine hg_next (Below.refl _ _) ?_
  refine Zht 37 83 (fun q hq=>yi_sub (r:=(rootI ((ogT xs).length:Int))) (s:=1) rfl rfl rfl (by omega) (by omega)) ?_
  refine Zht 38 83 (fun q hq=>yb (dT (show ((rootI ((ogT xs).length:Int))-1)<(lastA (trAs (ogT xs))) from (og_root hby c4 c20))) (yi_gtr rfl rfl rfl)) ?_
  refine Zht 39 79 (fun q hq=>y_pick false rfl rfl rfl) ?_
  refine Zh 40 (fun q hq=>y_pick true rfl rfl rfl) ?_
  refine Zh 41 (fun q hq=>y_move rfl rfl) ?_
  refine Zht 42 93 (fun q hq=>y_move rfl rfl) ?_
  refine Zht 43 93 (fun q hq=>yb (dT (show (ogE (xs++([y]:List Int)))=2 from (og_long hby c4 y))) (yi_eql rfl rfl rfl)) ?_
  refine Zh 44 (fun q hq=>y_pick true rfl rfl rfl) ?_
  refine Zh 45 (fun q hq=>y_move rfl rfl) ?_
  refine Zht 46 97 (fun q hq=>y_move rfl rfl) ?_
  refine Zht 47 97 (fun q hq=>yb (dT (show (ogE (xs.take (((xs.length-1)))))=1 from (og_short hby c4))) (yi_eql rfl rfl rfl)) ?_
  refine Zh 48 (fun q hq=>y_pick true rfl rfl rfl) ?_
  refine Zh 49 (fun q hq=>y_assign rfl rfl) ?_
  refine hg_done (by kernel_rfl) ?_
  refine Nx [4] ?_
  refine cg_ret ?_
  have u:=Un (Un u hw15) hw16
  have u:=Un (Un u hw18) hw21
  exact Qa rfl rfl ⟨_,rfl,rfl,u⟩
 refine Zan (yb (nd_t c4) yi_neq) [0,1,4,5,6,24] ?_
 refine cg_ct rfl ?_
 refine ZrM ?_
 refine ZM ?_
 refine Zt 26 y_move ?_
 refine Zt 26 (y_lenM (el:=40) m3.len) ?_
 refine Zt 26 (yb (dT (show ((ogT xs).length:Int)=0 from (by rw [ogT_no c4];rfl))) (yi_eql rfl rfl rfl)) ?_
 refine Za (y_pick true) ?_
 refine ZAnr [0,1,5,6,4] ?_
 refine Qc ?_
 have u:=Un u hw3
 exact Qa rfl rfl ⟨_,rfl,rfl,u⟩
end Go.Proofs.YtognnnjdoemgfaaDoor
