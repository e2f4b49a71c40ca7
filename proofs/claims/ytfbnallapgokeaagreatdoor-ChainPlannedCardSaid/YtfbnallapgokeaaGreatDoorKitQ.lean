/-
  KitQ: LfRef, LfRefG, PnRef, NdRef.
-/
import Derived.Test.YtfbnallapgokeaaGreatDoorKitP
namespace Go.Proofs.YtfbnallapgokeaaGreatDoor
open Go.ChangeShapes Go.WideShapes Go.ChangeAt Go.RowKit
set_option linter.unusedVariables false

/- LfRef:
  The document's Few, Check, Same and Put.
-/
theorem few_any {W : World} {B : Nat} {l : LfV} {L : Lf} (hl : IsLf W B l L) (hB : B ≤ W.heap.size) : Calls Tryz.prog 87 #[.agg (l.cs L)] W fun e W' => ∃ v, e = .returned v ∧ v = .bool (decide (lfFew L)) ∧ Below W.heap.size W W' := by
 refine calls_cg (n := 15) Tryz.func87 rfl Tryz.ntmps87 (by simp) ?_
 show CG _ _ _ [(0, .agg (l.cs L))] _ _
 have u := Below.refl W.heap.size W
 refine Zr ?_
 refine lg_boxw (want_none (by rfl)) rfl rfl (by kernel_rfl) rfl (by decide) fun b1 w1 n1 => ?_
 have r1 := n1.row
 have k1 := n1.blk
 have z1 := n1.size
 have lt1 : b1 < w1.heap.size := by omega
 refine ZA ?_
 refine Zn (zk2 1 2 rfl rfl fn) ?_
 refine Zr ?_
 refine Za (y_fld (off := 0) (by kernel_rfl) rfl rfl) ?_
 refine Za (y_cellv (v := l.enc.v) r1 rfl (by kernel_rfl) rfl rfl) ?_
 have hl := hl.below (n1.below.mono (by omega))
 refine Za (y_lenS (el := 5) hl.enc (by kernel_rfl) rfl rfl) ?_
 refine Za (y_fld (off := 1) (by kernel_rfl) rfl rfl) ?_
 refine Za (y_cellv (v := l.cred.v) r1 rfl (by kernel_rfl) rfl rfl) ?_
 refine Za (y_lenS (el := 5) hl.cred (by kernel_rfl) rfl rfl) ?_
 refine Za (yi_addW rfl rfl rfl) ?_
 refine Za (y_fld (off := 3) (by kernel_rfl) rfl rfl) ?_
 refine Za (y_cellv (v := l.par.v) r1 rfl (by kernel_rfl) rfl rfl) ?_
 refine Za (y_lenS (el := 5) hl.par (by kernel_rfl) rfl rfl) ?_
 refine Za (yi_addW rfl rfl rfl) ?_
 refine Za (yi_leq rfl rfl rfl) ?_
 refine ZA ?_
 refine Zn (zk1 2 rfl fn) ?_
 refine cg_ret ?_
 have u := Un u n1.below
 exact eg_ret_tmp rfl rfl ⟨_, rfl, rfl, u⟩
theorem rsame_any {W : World} {B : Nat} {l m : LfV} {L M : Lf} (hl : IsLf W B l L) (hm : IsLf W B m M) (hB : B ≤ W.heap.size) : Calls Tryz.prog 100 #[.agg (l.cs L), .agg (m.cs M)] W fun e W' => ∃ v, e = .returned v ∧ v = .bool (decide (LfSame L M)) ∧ Below W.heap.size W W' := by
 refine calls_cg (n := 37) Tryz.func100 rfl Tryz.ntmps100 (by simp) ?_
 show CG _ _ _ [(0, .agg (l.cs L)), (1, .agg (m.cs M))] _ _
 have u := Below.refl W.heap.size W
 refine Zr ?_
 refine lg_boxw (want_none (by rfl)) rfl rfl (by kernel_rfl) rfl (by decide) fun b1 w1 n1 => ?_
 have r1 := n1.row
 have k1 := n1.blk
 have z1 := n1.size
 have lt1 : b1 < w1.heap.size := by omega
 refine lg_boxw (want_none (by rfl)) rfl rfl (by kernel_rfl) rfl (by decide) fun b2 w2 n2 => ?_
 have r2 := n2.row
 have k2 := n2.blk
 have z2 := n2.size
 have lt2 : b2 < w2.heap.size := by omega
 refine ZA ?_
 refine Zn (zk3 2 3 4 rfl rfl rfl fn) ?_
 refine Zr ?_
 refine Za (y_fld (off := 0) (by kernel_rfl) rfl rfl) ?_
 have r1 := n2.keep r1
 refine Za (y_cellv (v := l.enc.v) r1 rfl (by kernel_rfl) rfl rfl) ?_
 have hl := hl.below (n1.below.mono (by omega))
 have hl := hl.below (n2.below.mono (by omega))
 have by3 : Bytes L.enc := hl.enc.bytes
 refine Za (y_strS hl.enc rfl rfl) ?_
 refine Za (y_fld (off := 0) (by kernel_rfl) rfl rfl) ?_
 refine Za (y_cellv (v := m.enc.v) r2 rfl (by kernel_rfl) rfl rfl) ?_
 have hm := hm.below (n1.below.mono (by omega))
 have hm := hm.below (n2.below.mono (by omega))
 have by4 : Bytes M.enc := hm.enc.bytes
 refine Za (y_strS hm.enc rfl rfl) ?_
 by_cases c5 : L.enc = M.enc
 ·refine Za (yb (decide_eq_true c5) (y_seqS (xs := L.enc) (ys := M.enc) by3 by4 rfl rfl rfl)) ?_
  refine ZM ?_
  refine Zt 12 (y_fld (off := 1) (by kernel_rfl) rfl rfl) ?_
  refine Zt 12 (y_cellv (v := l.cred.v) r1 rfl (by kernel_rfl) rfl rfl) ?_
  have by6 : Bytes L.cred := hl.cred.bytes
  refine Zt 12 (y_strS hl.cred rfl rfl) ?_
  refine Zt 12 (y_fld (off := 1) (by kernel_rfl) rfl rfl) ?_
  refine Zt 12 (y_cellv (v := m.cred.v) r2 rfl (by kernel_rfl) rfl rfl) ?_
  have by7 : Bytes M.cred := hm.cred.bytes
  refine Zt 12 (y_strS hm.cred rfl rfl) ?_
  by_cases c8 : L.cred = M.cred
  ·refine Zt 12 (yb (decide_eq_true c8) (y_seqS (xs := L.cred) (ys := M.cred) by6 by7 rfl rfl rfl)) ?_
   refine Za (y_pick true rfl rfl rfl) ?_
   refine ZM ?_
   refine Zt 21 (y_fld (off := 2) (by kernel_rfl) rfl rfl) ?_
   refine Zt 21 (y_cellv (v := nv L.src) r1 rfl (by kernel_rfl) rfl rfl) ?_
   refine Zt 21 (y_fld (off := 2) (by kernel_rfl) rfl rfl) ?_
   refine Zt 21 (y_cellv (v := nv M.src) r2 rfl (by kernel_rfl) rfl rfl) ?_
   by_cases c9 : L.src = M.src
   ·refine Zt 21 (yb (decide_eq_true c9) (yi_eql rfl rfl rfl)) ?_
    refine Za (y_pick true rfl rfl rfl) ?_
    refine ZM ?_
    refine Zt 28 (y_fld (off := 3) (by kernel_rfl) rfl rfl) ?_
    refine Zt 28 (y_cellv (v := l.par.v) r1 rfl (by kernel_rfl) rfl rfl) ?_
    have by10 : Bytes L.par := hl.par.bytes
    refine Zt 28 (y_strS hl.par rfl rfl) ?_
    refine Zt 28 (y_fld (off := 3) (by kernel_rfl) rfl rfl) ?_
    refine Zt 28 (y_cellv (v := m.par.v) r2 rfl (by kernel_rfl) rfl rfl) ?_
    have by11 : Bytes M.par := hm.par.bytes
    refine Zt 28 (y_strS hm.par rfl rfl) ?_
    by_cases c12 : L.par = M.par
    ·refine Zt 28 (yb (decide_eq_true c12) (y_seqS (xs := L.par) (ys := M.par) by10 by11 rfl rfl rfl)) ?_
     refine Za (y_pick true rfl rfl rfl) ?_
     refine ZA ?_
     refine Zn (zk1 4 rfl fn) ?_
     refine cg_ret ?_
     have u := Un u n1.below
     have u := Un u n2.below
     exact eg_ret_tmp rfl rfl ⟨_, rfl, congrArg Value.bool (show true = decide (LfSame L M) from (decide_eq_true (by simp [LfSame, *])).symm), u⟩
    ·refine Zt 28 (yb (decide_eq_false c12) (y_seqS (xs := L.par) (ys := M.par) by10 by11 rfl rfl rfl)) ?_
     refine Za (y_pick true rfl rfl rfl) ?_
     refine ZA ?_
     refine Zn (zk1 4 rfl fn) ?_
     refine cg_ret ?_
     have u := Un u n1.below
     have u := Un u n2.below
     exact eg_ret_tmp rfl rfl ⟨_, rfl, congrArg Value.bool (show false = decide (LfSame L M) from (decide_eq_false (by simp [LfSame, *])).symm), u⟩
   ·refine Zt 21 (yb (decide_eq_false c9) (yi_eql rfl rfl rfl)) ?_
    refine Za (y_pick true rfl rfl rfl) ?_
    refine ZM ?_
    refine Zf 28 ?_
    refine Zf 28 ?_
    refine Zf 28 ?_
    refine Zf 28 ?_
    refine Zf 28 ?_
    refine Zf 28 ?_
    refine Zf 28 ?_
    refine Za (y_pick false rfl rfl rfl) ?_
    refine ZA ?_
    refine Zn (zk1 4 rfl fn) ?_
    refine cg_ret ?_
    have u := Un u n1.below
    have u := Un u n2.below
    exact eg_ret_tmp rfl rfl ⟨_, rfl, congrArg Value.bool (show false = decide (LfSame L M) from (decide_eq_false (by simp [LfSame, *])).symm), u⟩
  ·refine Zt 12 (yb (decide_eq_false c8) (y_seqS (xs := L.cred) (ys := M.cred) by6 by7 rfl rfl rfl)) ?_
   refine Za (y_pick true rfl rfl rfl) ?_
   refine ZM ?_
   refine Zf 21 ?_
   refine Zf 21 ?_
   refine Zf 21 ?_
   refine Zf 21 ?_
   refine Zf 21 ?_
   refine Za (y_pick false rfl rfl rfl) ?_
   refine ZM ?_
   refine Zf 28 ?_
   refine Zf 28 ?_
   refine Zf 28 ?_
   refine Zf 28 ?_
   refine Zf 28 ?_
   refine Zf 28 ?_
   refine Zf 28 ?_
   refine Za (y_pick false rfl rfl rfl) ?_
   refine ZA ?_
   refine Zn (zk1 4 rfl fn) ?_
   refine cg_ret ?_
   have u := Un u n1.below
   have u := Un u n2.below
   exact eg_ret_tmp rfl rfl ⟨_, rfl, congrArg Value.bool (show false = decide (LfSame L M) from (decide_eq_false (by simp [LfSame, *])).symm), u⟩
 ·refine Za (yb (decide_eq_false c5) (y_seqS (xs := L.enc) (ys := M.enc) by3 by4 rfl rfl rfl)) ?_
  refine ZM ?_
  refine Zf 12 ?_
  refine Zf 12 ?_
  refine Zf 12 ?_
  refine Zf 12 ?_
  refine Zf 12 ?_
  refine Zf 12 ?_
  refine Zf 12 ?_
  refine Za (y_pick false rfl rfl rfl) ?_
  refine ZM ?_
  refine Zf 21 ?_
  refine Zf 21 ?_
  refine Zf 21 ?_
  refine Zf 21 ?_
  refine Zf 21 ?_
  refine Za (y_pick false rfl rfl rfl) ?_
  refine ZM ?_
  refine Zf 28 ?_
  refine Zf 28 ?_
  refine Zf 28 ?_
  refine Zf 28 ?_
  refine Zf 28 ?_
  refine Zf 28 ?_
  refine Zf 28 ?_
  refine Za (y_pick false rfl rfl rfl) ?_
  refine ZA ?_
  refine Zn (zk1 4 rfl fn) ?_
  refine cg_ret ?_
  have u := Un u n1.below
  have u := Un u n2.below
  exact eg_ret_tmp rfl rfl ⟨_, rfl, congrArg Value.bool (show false = decide (LfSame L M) from (decide_eq_false (by simp [LfSame, *])).symm), u⟩
/- LfRefG:
  The document's Get.
-/

/- PnRef:
  The document's Few, Check, Same, Put and Get.
-/
section
set_option maxHeartbeats 1000000
theorem fewP_any {W : World} {B : Nat} {l : PnV} {L : Pn} (hl : IsPn W B l L) (hB : B ≤ W.heap.size) : Calls Tryz.prog 88 #[.agg (l.cs L)] W fun e W' => ∃ v, e = .returned v ∧ v = .bool (decide (pnFew L)) ∧ Below W.heap.size W W' := by
 refine calls_cg (n := 15) Tryz.func88 rfl Tryz.ntmps88 (by simp) ?_
 show CG _ _ _ [(0, .agg (l.cs L))] _ _
 have u := Below.refl W.heap.size W
 refine Zr ?_
 refine lg_boxw (want_none (by rfl)) rfl rfl (by kernel_rfl) rfl (by decide) fun b1 w1 n1 => ?_
 have r1 := n1.row
 have k1 := n1.blk
 have z1 := n1.size
 have lt1 : b1 < w1.heap.size := by omega
 refine ZA ?_
 refine Zn (zk2 1 2 rfl rfl fn) ?_
 refine Zr ?_
 refine Za (y_fld (off := 0) (by kernel_rfl) rfl rfl) ?_
 refine Za (y_cellv (v := l.enc.v) r1 rfl (by kernel_rfl) rfl rfl) ?_
 have hl := hl.below (n1.below.mono (by omega))
 refine Za (y_lenS (el := 5) hl.enc (by kernel_rfl) rfl rfl) ?_
 refine Za (y_fld (off := 1) (by kernel_rfl) rfl rfl) ?_
 refine Za (y_cellv (v := l.hash.v) r1 rfl (by kernel_rfl) rfl rfl) ?_
 refine Za (y_lenS (el := 5) hl.hash (by kernel_rfl) rfl rfl) ?_
 refine Za (yi_addW rfl rfl rfl) ?_
 refine Za (y_fld (off := 2) (by kernel_rfl) rfl rfl) ?_
 refine Za (y_cellv (v := l.unm.v) r1 rfl (by kernel_rfl) rfl rfl) ?_
 refine Za (y_lenM (el := 3) hl.unm.len (by kernel_rfl) rfl rfl) ?_
 refine Za (yi_addW rfl rfl rfl) ?_
 refine Za (yi_leq rfl rfl rfl) ?_
 refine ZA ?_
 refine Zn (zk1 2 rfl fn) ?_
 refine cg_ret ?_
 have u := Un u n1.below
 exact eg_ret_tmp rfl rfl ⟨_, rfl, rfl, u⟩
theorem rsameP_any {W : World} {B : Nat} {l m : PnV} {L M : Pn} (hl : IsPn W B l L) (hm : IsPn W B m M) (hB : B ≤ W.heap.size) : Calls Tryz.prog 101 #[.agg (l.cs L), .agg (m.cs M)] W fun e W' => ∃ v, e = .returned v ∧ v = .bool (decide (PnSame L M)) ∧ Below W.heap.size W W' := by
 refine calls_cg (n := 28) Tryz.func101 rfl Tryz.ntmps101 (by simp) ?_
 show CG _ _ _ [(0, .agg (l.cs L)), (1, .agg (m.cs M))] _ _
 have u := Below.refl W.heap.size W
 refine Zr ?_
 refine lg_boxw (want_none (by rfl)) rfl rfl (by kernel_rfl) rfl (by decide) fun b1 w1 n1 => ?_
 have r1 := n1.row
 have k1 := n1.blk
 have z1 := n1.size
 have lt1 : b1 < w1.heap.size := by omega
 refine lg_boxw (want_none (by rfl)) rfl rfl (by kernel_rfl) rfl (by decide) fun b2 w2 n2 => ?_
 have r2 := n2.row
 have k2 := n2.blk
 have z2 := n2.size
 have lt2 : b2 < w2.heap.size := by omega
 refine ZA ?_
 refine Zn (zk3 2 3 4 rfl rfl rfl fn) ?_
 refine Zr ?_
 refine Za (y_fld (off := 0) (by kernel_rfl) rfl rfl) ?_
 have r1 := n2.keep r1
 refine Za (y_cellv (v := l.enc.v) r1 rfl (by kernel_rfl) rfl rfl) ?_
 have hl := hl.below (n1.below.mono (by omega))
 have hl := hl.below (n2.below.mono (by omega))
 have by3 : Bytes L.enc := hl.enc.bytes
 refine Za (y_strS hl.enc rfl rfl) ?_
 refine Za (y_fld (off := 0) (by kernel_rfl) rfl rfl) ?_
 refine Za (y_cellv (v := m.enc.v) r2 rfl (by kernel_rfl) rfl rfl) ?_
 have hm := hm.below (n1.below.mono (by omega))
 have hm := hm.below (n2.below.mono (by omega))
 have by4 : Bytes M.enc := hm.enc.bytes
 refine Za (y_strS hm.enc rfl rfl) ?_
 by_cases c5 : L.enc = M.enc
 ·refine Za (yb (decide_eq_true c5) (y_seqS (xs := L.enc) (ys := M.enc) by3 by4 rfl rfl rfl)) ?_
  refine ZM ?_
  refine Zt 12 (y_fld (off := 1) (by kernel_rfl) rfl rfl) ?_
  refine Zt 12 (y_cellv (v := l.hash.v) r1 rfl (by kernel_rfl) rfl rfl) ?_
  have by6 : Bytes L.hash := hl.hash.bytes
  refine Zt 12 (y_strS hl.hash rfl rfl) ?_
  refine Zt 12 (y_fld (off := 1) (by kernel_rfl) rfl rfl) ?_
  refine Zt 12 (y_cellv (v := m.hash.v) r2 rfl (by kernel_rfl) rfl rfl) ?_
  have by7 : Bytes M.hash := hm.hash.bytes
  refine Zt 12 (y_strS hm.hash rfl rfl) ?_
  by_cases c8 : L.hash = M.hash
  ·refine Zt 12 (yb (decide_eq_true c8) (y_seqS (xs := L.hash) (ys := M.hash) by6 by7 rfl rfl rfl)) ?_
   refine Za (y_pick true rfl rfl rfl) ?_
   refine ZM ?_
   refine Zt 21 (y_fld (off := 2) (by kernel_rfl) rfl rfl) ?_
   refine Zt 21 (y_cellv (v := l.unm.v) r1 rfl (by kernel_rfl) rfl rfl) ?_
   refine Zt 21 (y_fld (off := 2) (by kernel_rfl) rfl rfl) ?_
   refine Zt 21 (y_cellv (v := m.unm.v) r2 rfl (by kernel_rfl) rfl rfl) ?_
   by_cases c9 : L.unm = M.unm
   ·refine Zct 21 (ints_S hl.unm hm.unm (by omega) (by omega)) rfl rfl ?_
    rintro u10 w10 ⟨e10, hw10⟩
    have zw10 := hw10.size
    obtain rfl : u10 = .bool true := e10.trans (congrArg Value.bool (decide_eq_true c9))
    refine Za (y_pick true rfl rfl rfl) ?_
    refine ZA ?_
    refine Zn (zk1 4 rfl fn) ?_
    refine cg_ret ?_
    have u := Un u n1.below
    have u := Un u n2.below
    have u := Un u hw10
    exact eg_ret_tmp rfl rfl ⟨_, rfl, congrArg Value.bool (show true = decide (PnSame L M) from (decide_eq_true (by simp [PnSame, *])).symm), u⟩
   ·refine Zct 21 (ints_S hl.unm hm.unm (by omega) (by omega)) rfl rfl ?_
    rintro u11 w11 ⟨e11, hw11⟩
    have zw11 := hw11.size
    obtain rfl : u11 = .bool false := e11.trans (congrArg Value.bool (decide_eq_false c9))
    refine Za (y_pick true rfl rfl rfl) ?_
    refine ZA ?_
    refine Zn (zk1 4 rfl fn) ?_
    refine cg_ret ?_
    have u := Un u n1.below
    have u := Un u n2.below
    have u := Un u hw11
    exact eg_ret_tmp rfl rfl ⟨_, rfl, congrArg Value.bool (show false = decide (PnSame L M) from (decide_eq_false (by simp [PnSame, *])).symm), u⟩
  ·refine Zt 12 (yb (decide_eq_false c8) (y_seqS (xs := L.hash) (ys := M.hash) by6 by7 rfl rfl rfl)) ?_
   refine Za (y_pick true rfl rfl rfl) ?_
   refine ZM ?_
   refine Zf 21 ?_
   refine Zf 21 ?_
   refine Zf 21 ?_
   refine Zf 21 ?_
   refine Zf 21 ?_
   refine Za (y_pick false rfl rfl rfl) ?_
   refine ZA ?_
   refine Zn (zk1 4 rfl fn) ?_
   refine cg_ret ?_
   have u := Un u n1.below
   have u := Un u n2.below
   exact eg_ret_tmp rfl rfl ⟨_, rfl, congrArg Value.bool (show false = decide (PnSame L M) from (decide_eq_false (by simp [PnSame, *])).symm), u⟩
 ·refine Za (yb (decide_eq_false c5) (y_seqS (xs := L.enc) (ys := M.enc) by3 by4 rfl rfl rfl)) ?_
  refine ZM ?_
  refine Zf 12 ?_
  refine Zf 12 ?_
  refine Zf 12 ?_
  refine Zf 12 ?_
  refine Zf 12 ?_
  refine Zf 12 ?_
  refine Zf 12 ?_
  refine Za (y_pick false rfl rfl rfl) ?_
  refine ZM ?_
  refine Zf 21 ?_
  refine Zf 21 ?_
  refine Zf 21 ?_
  refine Zf 21 ?_
  refine Zf 21 ?_
  refine Za (y_pick false rfl rfl rfl) ?_
  refine ZA ?_
  refine Zn (zk1 4 rfl fn) ?_
  refine cg_ret ?_
  have u := Un u n1.below
  have u := Un u n2.below
  exact eg_ret_tmp rfl rfl ⟨_, rfl, congrArg Value.bool (show false = decide (PnSame L M) from (decide_eq_false (by simp [PnSame, *])).symm), u⟩
end
/- NdRef:
  The document's Few, Check, As, Put, Get, Same, and what is summed up.
-/
section
set_option maxHeartbeats 1000000
theorem fewN_any {W : World} {B : Nat} {l : NdV} {L : Nd} (hl : IsNd W B l L) (hB : B ≤ W.heap.size) : Calls Tryz.prog 37 #[.agg (l.cs L)] W fun e W' => ∃ v, e = .returned v ∧ v = .bool (decide (ndFew L)) ∧ Below W.heap.size W W' := by
 refine calls_cg (n := 11) Tryz.func37 rfl Tryz.ntmps37 (by simp) ?_
 show CG _ _ _ [(0, .agg (l.cs L))] _ _
 have u := Below.refl W.heap.size W
 refine Zr ?_
 refine lg_boxw (want_none (by rfl)) rfl rfl (by kernel_rfl) rfl (by decide) fun b1 w1 n1 => ?_
 have r1 := n1.row
 have k1 := n1.blk
 have z1 := n1.size
 have lt1 : b1 < w1.heap.size := by omega
 refine ZA ?_
 refine Zn (zk2 1 2 rfl rfl fn) ?_
 refine Zr ?_
 refine Za (y_fld (off := 1) (by kernel_rfl) rfl rfl) ?_
 refine Za (y_part r1 (m := 4) rfl (show 1+4 ≤ 8 by decide) (by kernel_rfl) (by kernel_rfl) rfl rfl) ?_
 have hl := hl.below (n1.below.mono (by omega))
 by_cases c2 : lfFew L.leaf
 ·refine Zc (few_any (hl.leaf.more (B' := w1.heap.size) (by omega)) (Nat.le_refl _)) rfl rfl ?_
  rintro u3 w3 ⟨e3, hw3⟩
  have zw3 := hw3.size
  obtain rfl : u3 = .bool true := e3.trans (congrArg Value.bool (decide_eq_true c2))
  refine ZM ?_
  refine Zt 6 (y_fld (off := 5) (by kernel_rfl) rfl rfl) ?_
  have r1 := RowAt.below hw3 r1.lt r1
  refine Zt 6 (y_part r1 (m := 3) rfl (show 5+3 ≤ 8 by decide) (by kernel_rfl) (by kernel_rfl) rfl rfl) ?_
  have hl := hl.below (hw3.mono (by omega))
  by_cases c4 : pnFew L.inner
  ·refine Zct 6 (fewP_any (hl.inner.more (B' := w3.heap.size) (by omega)) (Nat.le_refl _)) rfl rfl ?_
   rintro u5 w5 ⟨e5, hw5⟩
   have zw5 := hw5.size
   obtain rfl : u5 = .bool true := e5.trans (congrArg Value.bool (decide_eq_true c4))
   refine Za (y_pick true rfl rfl rfl) ?_
   refine ZA ?_
   refine Zn (zk1 2 rfl fn) ?_
   refine cg_ret ?_
   have u := Un u n1.below
   have u := Un u hw3
   have u := Un u hw5
   exact eg_ret_tmp rfl rfl ⟨_, rfl, congrArg Value.bool (show true = decide (ndFew L) from (decide_eq_true (by simp [ndFew, c2, c4])).symm), u⟩
  ·refine Zct 6 (fewP_any (hl.inner.more (B' := w3.heap.size) (by omega)) (Nat.le_refl _)) rfl rfl ?_
   rintro u6 w6 ⟨e6, hw6⟩
   have zw6 := hw6.size
   obtain rfl : u6 = .bool false := e6.trans (congrArg Value.bool (decide_eq_false c4))
   refine Za (y_pick true rfl rfl rfl) ?_
   refine ZA ?_
   refine Zn (zk1 2 rfl fn) ?_
   refine cg_ret ?_
   have u := Un u n1.below
   have u := Un u hw3
   have u := Un u hw6
   exact eg_ret_tmp rfl rfl ⟨_, rfl, congrArg Value.bool (show false = decide (ndFew L) from (decide_eq_false (by simp [ndFew, c2, c4])).symm), u⟩
 ·refine Zc (few_any (hl.leaf.more (B' := w1.heap.size) (by omega)) (Nat.le_refl _)) rfl rfl ?_
  rintro u7 w7 ⟨e7, hw7⟩
  have zw7 := hw7.size
  obtain rfl : u7 = .bool false := e7.trans (congrArg Value.bool (decide_eq_false c2))
  refine ZM ?_
  refine Zf 6 ?_
  refine Zf 6 ?_
  refine Zf 6 ?_
  refine Za (y_pick false rfl rfl rfl) ?_
  refine ZA ?_
  refine Zn (zk1 2 rfl fn) ?_
  refine cg_ret ?_
  have u := Un u n1.below
  have u := Un u hw7
  exact eg_ret_tmp rfl rfl ⟨_, rfl, congrArg Value.bool (show false = decide (ndFew L) from (decide_eq_false (by simp [ndFew, c2])).symm), u⟩
theorem rsameN_any {W : World} {B : Nat} {l m : NdV} {L M : Nd} (hl : IsNd W B l L) (hm : IsNd W B m M) (hB : B ≤ W.heap.size) : Calls Tryz.prog 52 #[.agg (l.cs L), .agg (m.cs M)] W fun e W' => ∃ v, e = .returned v ∧ v = .bool (decide (NdSame L M)) ∧ Below W.heap.size W W' := by
 refine calls_cg (n := 24) Tryz.func52 rfl Tryz.ntmps52 (by simp) ?_
 show CG _ _ _ [(0, .agg (l.cs L)), (1, .agg (m.cs M))] _ _
 have u := Below.refl W.heap.size W
 refine Zr ?_
 refine lg_boxw (want_none (by rfl)) rfl rfl (by kernel_rfl) rfl (by decide) fun b1 w1 n1 => ?_
 have r1 := n1.row
 have k1 := n1.blk
 have z1 := n1.size
 have lt1 : b1 < w1.heap.size := by omega
 refine lg_boxw (want_none (by rfl)) rfl rfl (by kernel_rfl) rfl (by decide) fun b2 w2 n2 => ?_
 have r2 := n2.row
 have k2 := n2.blk
 have z2 := n2.size
 have lt2 : b2 < w2.heap.size := by omega
 refine ZA ?_
 refine Zn (zk3 2 3 4 rfl rfl rfl fn) ?_
 refine Zr ?_
 refine Za (y_fld (off := 0) (by kernel_rfl) rfl rfl) ?_
 have r1 := n2.keep r1
 refine Za (y_cellv (v := nv L.kind) r1 rfl (by kernel_rfl) rfl rfl) ?_
 refine Za (y_fld (off := 0) (by kernel_rfl) rfl rfl) ?_
 refine Za (y_cellv (v := nv M.kind) r2 rfl (by kernel_rfl) rfl rfl) ?_
 by_cases c3 : L.kind = M.kind
 ·refine Za (yb (decide_eq_true c3) (yi_eql rfl rfl rfl)) ?_
  refine ZM ?_
  refine Zt 10 (y_fld (off := 1) (by kernel_rfl) rfl rfl) ?_
  refine Zt 10 (y_part r1 (m := 4) rfl (show 1+4 ≤ 8 by decide) (by kernel_rfl) (by kernel_rfl) rfl rfl) ?_
  refine Zt 10 (y_fld (off := 1) (by kernel_rfl) rfl rfl) ?_
  refine Zt 10 (y_part r2 (m := 4) rfl (show 1+4 ≤ 8 by decide) (by kernel_rfl) (by kernel_rfl) rfl rfl) ?_
  have hl := hl.below (n1.below.mono (by omega))
  have hl := hl.below (n2.below.mono (by omega))
  have hm := hm.below (n1.below.mono (by omega))
  have hm := hm.below (n2.below.mono (by omega))
  by_cases c4 : LfSame L.leaf M.leaf
  ·refine Zct 10 (rsame_any (hl.leaf.more (B' := w2.heap.size) (by omega)) (hm.leaf.more (B' := w2.heap.size) (by omega)) (Nat.le_refl _)) rfl rfl ?_
   rintro u5 w5 ⟨e5, hw5⟩
   have zw5 := hw5.size
   obtain rfl : u5 = .bool true := e5.trans (congrArg Value.bool (decide_eq_true c4))
   refine Za (y_pick true rfl rfl rfl) ?_
   refine ZM ?_
   refine Zt 17 (y_fld (off := 5) (by kernel_rfl) rfl rfl) ?_
   have r1 := RowAt.below hw5 r1.lt r1
   refine Zt 17 (y_part r1 (m := 3) rfl (show 5+3 ≤ 8 by decide) (by kernel_rfl) (by kernel_rfl) rfl rfl) ?_
   refine Zt 17 (y_fld (off := 5) (by kernel_rfl) rfl rfl) ?_
   have r2 := RowAt.below hw5 r2.lt r2
   refine Zt 17 (y_part r2 (m := 3) rfl (show 5+3 ≤ 8 by decide) (by kernel_rfl) (by kernel_rfl) rfl rfl) ?_
   have hl := hl.below (hw5.mono (by omega))
   have hm := hm.below (hw5.mono (by omega))
   by_cases c6 : PnSame L.inner M.inner
   ·refine Zct 17 (rsameP_any (hl.inner.more (B' := w5.heap.size) (by omega)) (hm.inner.more (B' := w5.heap.size) (by omega)) (Nat.le_refl _)) rfl rfl ?_
    rintro u7 w7 ⟨e7, hw7⟩
    have zw7 := hw7.size
    obtain rfl : u7 = .bool true := e7.trans (congrArg Value.bool (decide_eq_true c6))
    refine Za (y_pick true rfl rfl rfl) ?_
    refine ZA ?_
    refine Zn (zk1 4 rfl fn) ?_
    refine cg_ret ?_
    have u := Un u n1.below
    have u := Un u n2.below
    have u := Un u hw5
    have u := Un u hw7
    exact eg_ret_tmp rfl rfl ⟨_, rfl, congrArg Value.bool (show true = decide (NdSame L M) from (decide_eq_true (by simp [NdSame, c3, c4, c6])).symm), u⟩
   ·refine Zct 17 (rsameP_any (hl.inner.more (B' := w5.heap.size) (by omega)) (hm.inner.more (B' := w5.heap.size) (by omega)) (Nat.le_refl _)) rfl rfl ?_
    rintro u8 w8 ⟨e8, hw8⟩
    have zw8 := hw8.size
    obtain rfl : u8 = .bool false := e8.trans (congrArg Value.bool (decide_eq_false c6))
    refine Za (y_pick true rfl rfl rfl) ?_
    refine ZA ?_
    refine Zn (zk1 4 rfl fn) ?_
    refine cg_ret ?_
    have u := Un u n1.below
    have u := Un u n2.below
    have u := Un u hw5
    have u := Un u hw8
    exact eg_ret_tmp rfl rfl ⟨_, rfl, congrArg Value.bool (show false = decide (NdSame L M) from (decide_eq_false (by simp [NdSame, c3, c4, c6])).symm), u⟩
  ·refine Zct 10 (rsame_any (hl.leaf.more (B' := w2.heap.size) (by omega)) (hm.leaf.more (B' := w2.heap.size) (by omega)) (Nat.le_refl _)) rfl rfl ?_
   rintro u9 w9 ⟨e9, hw9⟩
   have zw9 := hw9.size
   obtain rfl : u9 = .bool false := e9.trans (congrArg Value.bool (decide_eq_false c4))
   refine Za (y_pick true rfl rfl rfl) ?_
   refine ZM ?_
   refine Zf 17 ?_
   refine Zf 17 ?_
   refine Zf 17 ?_
   refine Zf 17 ?_
   refine Zf 17 ?_
   refine Za (y_pick false rfl rfl rfl) ?_
   refine ZA ?_
   refine Zn (zk1 4 rfl fn) ?_
   refine cg_ret ?_
   have u := Un u n1.below
   have u := Un u n2.below
   have u := Un u hw9
   exact eg_ret_tmp rfl rfl ⟨_, rfl, congrArg Value.bool (show false = decide (NdSame L M) from (decide_eq_false (by simp [NdSame, c3, c4])).symm), u⟩
 ·refine Za (yb (decide_eq_false c3) (yi_eql rfl rfl rfl)) ?_
  refine ZM ?_
  refine Zf 10 ?_
  refine Zf 10 ?_
  refine Zf 10 ?_
  refine Zf 10 ?_
  refine Zf 10 ?_
  refine Za (y_pick false rfl rfl rfl) ?_
  refine ZM ?_
  refine Zf 17 ?_
  refine Zf 17 ?_
  refine Zf 17 ?_
  refine Zf 17 ?_
  refine Zf 17 ?_
  refine Za (y_pick false rfl rfl rfl) ?_
  refine ZA ?_
  refine Zn (zk1 4 rfl fn) ?_
  refine cg_ret ?_
  have u := Un u n1.below
  have u := Un u n2.below
  exact eg_ret_tmp rfl rfl ⟨_, rfl, congrArg Value.bool (show false = decide (NdSame L M) from (decide_eq_false (by simp [NdSame, c3])).symm), u⟩
end
end Go.Proofs.YtfbnallapgokeaaGreatDoor
