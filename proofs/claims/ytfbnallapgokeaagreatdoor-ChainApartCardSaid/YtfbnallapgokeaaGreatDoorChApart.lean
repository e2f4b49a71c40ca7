/-
  What is elsewhere does not matter.
-/
import Derived.Test.YtfbnallapgokeaaGreatDoorChAwake
import Derived.Test.YtfbnallapgokeaaGreatDoorTrRef
namespace Go.Proofs.YtfbnallapgokeaaGreatDoor
open Go.ChangeShapes Go.WideShapes Go.ChangeAt Go.RowKit
set_option linter.unusedVariables false

set_option maxRecDepth 20000
set_option maxHeartbeats 4000000 in
theorem chainApart_any {W : World} {s : SlV} {Ls : List Nd} (h : RwNd W W.heap.size s Ls) (x y : Int) {l : NdV} {L : Nd} (hl : IsNd W W.heap.size l L) (rg : Tt W) : Calls Tryz.prog 9 #[s.v, nv x, nv y, .agg (l.cs L)] W fun e W' => ∃ v, e = .returned v ∧ v = .bool true ∧ Below W.heap.size W W' := by
 refine calls_cg (n := 62) Tryz.func9 rfl Tryz.ntmps9 (by simp) ?_
 show CG _ _ _ [(0, s.v), (1, nv x), (2, nv y), (3, .agg (l.cs L))] _ _
 have u := Below.refl W.heap.size W
 have q1 := h.len
 have q2 := h.cap
 refine Zr ?_
 refine lg_boxw (want_none (by rfl)) rfl rfl (by kernel_rfl) rfl (by decide) fun b1 w1 n1 => ?_
 have r1 := n1.row
 have k1 := n1.blk
 have z1 := n1.size
 have lt1 : b1 < w1.heap.size := by omega
 refine ZA ?_
 refine Zn (zk5 0 1 2 7 8 rfl rfl rfl rfl rfl fn) ?_
 refine Zr ?_
 have u := Un u n1.below
 refine Zc (awakeC_any _ (Tt.up u rg)) rfl rfl ?_
 rintro _ w2 ⟨rfl, hw2⟩
 have zw2 := hw2.size
 refine ZA ?_
 refine Zn (zk5 0 1 2 7 8 rfl rfl rfl rfl rfl (zk1 9 rfl fn)) ?_
 refine cg_seq ?_
 refine Zr ?_
 refine ZM ?_
 have h := h.below (n1.below.mono (by omega))
 have h := h.below (hw2.mono (by omega))
 by_cases c3 : trFew Ls
 ·refine Zc (fewR_any (h.more (B' := w2.heap.size) (by omega)) (Nat.le_refl _)) rfl rfl ?_
  rintro u4 w4 ⟨e4, hw4⟩
  have zw4 := hw4.size
  obtain rfl : u4 = .bool true := e4.trans (congrArg Value.bool (decide_eq_true c3))
  refine Za (y_bnot rfl rfl) ?_
  refine ZM ?_
  refine Zt 16 (y_move rfl rfl) ?_
  have h := h.below (hw4.mono (by omega))
  refine Zt 16 (y_lenM (el := 43) h.len (by kernel_rfl) rfl rfl) ?_
  by_cases c5 : 20 < (Ls.length : Int)
  ·refine Zt 16 (yb (decide_eq_true c5) (yi_gtr rfl rfl rfl)) ?_
   refine Za (y_pick false rfl rfl rfl) ?_
   refine ZM ?_
   refine Zf 21 ?_
   refine Zf 21 ?_
   refine Zf 21 ?_
   refine Za (y_pick true rfl rfl rfl) ?_
   refine ZM ?_
   refine Zf 26 ?_
   refine Zf 26 ?_
   refine Zf 26 ?_
   refine Zf 26 ?_
   refine Zf 26 ?_
   refine Za (y_pick true rfl rfl rfl) ?_
   refine ZM ?_
   refine Zf 33 ?_
   refine Zf 33 ?_
   refine Zf 33 ?_
   refine Zf 33 ?_
   refine Zf 33 ?_
   refine Za (y_pick true rfl rfl rfl) ?_
   refine Zn (zk5 0 1 2 7 8 rfl rfl rfl rfl rfl (zk2 9 39 rfl rfl fn)) ?_
   refine cg_ct rfl ?_
   refine Zr ?_
   refine ZM ?_
   refine ZA ?_
   refine Zn (zk5 0 1 2 7 9 rfl rfl rfl rfl rfl (zk1 8 rfl fn)) ?_
   refine cg_ret ?_
   refine eg_seq_ret ?_
   have u := Un u hw2
   have u := Un u hw4
   exact eg_ret_tmp rfl rfl ⟨_, rfl, rfl, u⟩
  ·refine Zt 16 (yb (decide_eq_false c5) (yi_gtr rfl rfl rfl)) ?_
   refine Za (y_pick false rfl rfl rfl) ?_
   refine ZM ?_
   refine Zt 21 (y_move rfl rfl) ?_
   by_cases c6 : trIs Ls
   ·have htr := c6
    have htl := trIs_le htr
    have hta := trAs_ok htr
    refine Zct 21 (sane_any (h.more (B' := w4.heap.size) (by omega)) (Nat.le_refl _)) rfl rfl ?_
    rintro u7 w7 ⟨e7, hw7⟩
    have zw7 := hw7.size
    obtain rfl : u7 = .bool true := e7.trans (congrArg Value.bool (decide_eq_true c6))
    refine Zt 21 (y_bnot rfl rfl) ?_
    refine Za (y_pick false rfl rfl rfl) ?_
    refine ZM ?_
    refine Zt 26 (y_move rfl rfl) ?_
    refine Zt 26 (y_move rfl rfl) ?_
    have h := h.below (hw7.mono (by omega))
    refine Zt 26 (y_lenM (el := 43) h.len (by kernel_rfl) rfl rfl) ?_
    by_cases c8 : isN x (Ls.length : Int)
    ·refine Zt 26 (yb (decide_eq_true c8) (y_call (isL_any x (Ls.length : Int) _) (by kernel_rfl) rfl rfl)) ?_
     refine Zt 26 (y_bnot rfl rfl) ?_
     refine Za (y_pick false rfl rfl rfl) ?_
     refine ZM ?_
     refine Zt 33 (y_move rfl rfl) ?_
     refine Zt 33 (y_move rfl rfl) ?_
     refine Zt 33 (y_move rfl rfl) ?_
     refine Zt 33 (y_lenM (el := 43) h.len (by kernel_rfl) rfl rfl) ?_
     have u := Un u hw2
     have u := Un u hw4
     have u := Un u hw7
     by_cases c9 : undI y x (Ls.length : Int)
     ·refine Zct 33 (under_any y x (Ls.length : Int) _ (Tt.up u rg).b) rfl rfl ?_
      rintro u10 w10 ⟨e10, hw10⟩
      have zw10 := hw10.size
      obtain rfl : u10 = .bool true := e10.trans (congrArg Value.bool (decide_eq_true c9))
      refine Za (y_pick false rfl rfl rfl) ?_
      refine Zn (zk5 0 1 2 7 8 rfl rfl rfl rfl rfl (zk2 9 39 rfl rfl fn)) ?_
      refine cg_ct rfl ?_
      refine Zr ?_
      refine ZM ?_
      refine ZA ?_
      refine Zn (zk5 0 1 2 7 9 rfl rfl rfl rfl rfl (zk1 8 rfl fn)) ?_
      refine cg_ret ?_
      refine eg_seq_ret ?_
      have u := Un u hw10
      exact eg_ret_tmp rfl rfl ⟨_, rfl, rfl, u⟩
     ·refine Zct 33 (under_any y x (Ls.length : Int) _ (Tt.up u rg).b) rfl rfl ?_
      rintro u11 w11 ⟨e11, hw11⟩
      have zw11 := hw11.size
      obtain rfl : u11 = .bool false := e11.trans (congrArg Value.bool (decide_eq_false c9))
      refine Za (y_pick false rfl rfl rfl) ?_
      refine Zn (zk5 0 1 2 7 8 rfl rfl rfl rfl rfl (zk2 9 39 rfl rfl fn)) ?_
      refine cg_cf rfl ?_
      refine cg_skip ?_
      refine nx (zk5 0 1 2 7 8 rfl rfl rfl rfl rfl (zk1 9 rfl fn)) ?_
      refine Zr ?_
      refine ZM ?_
      refine ZM ?_
      have r1 := RowAt.below hw2 r1.lt r1
      have r1 := RowAt.below hw4 r1.lt r1
      have r1 := RowAt.below hw7 r1.lt r1
      have r1 := RowAt.below hw11 r1.lt r1
      refine Za (y_loadA r1 (by kernel_rfl) (by kernel_rfl) rfl rfl) ?_
      have h := h.below (hw11.mono (by omega))
      have hl := hl.below (n1.below.mono (by omega))
      have hl := hl.below (hw2.mono (by omega))
      have hl := hl.below (hw4.mono (by omega))
      have hl := hl.below (hw7.mono (by omega))
      have hl := hl.below (hw11.mono (by omega))
      refine Zc (set_any (h.more (B' := w11.heap.size) (by omega)) y (hl.more (B' := w11.heap.size) (by omega)) (Nat.le_refl _)) rfl rfl ?_
      rintro _ w12 ⟨s12, rfl, m12, hw12⟩
      have zw12 := hw12.size
      refine ZM ?_
      refine Za (y_extract rfl rfl rfl) ?_
      refine Za (y_extract rfl rfl rfl) ?_
      refine ZA ?_
      refine ZA ?_
      refine Zn (zk5 0 1 8 9 10 rfl rfl rfl rfl rfl (zk1 11 rfl fn)) ?_
      refine Zr ?_
      refine ZM ?_
      refine ZM ?_
      refine Zt 49 (y_move rfl rfl) ?_
      by_cases c13 : (setE Ls y L) = 0
      ·obtain ⟨hy, hok⟩ := set_facts c13
       rw [hta] at hy
       have hse : (setL Ls y L) = Ls.set y.toNat L := by rw [setL_ok c13, hta]
       have hsa : trAs (setL Ls y L) = (setL Ls y L) := by rw [hse]; exact trAs_ok (trIs_set htr hok)
       have hvv : validL (trAs (setL Ls y L)) x ↔ validL (trAs Ls) x := by rw [hsa, hse, hta]; exact valid_set htr hy hok c9
       refine Zt 49 (yb (nd_f c13) (yi_neq rfl rfl rfl)) ?_
       refine Zt 49 (y_move rfl rfl) ?_
       refine Zt 52 (y_move rfl rfl) ?_
       refine Zt 52 (y_move rfl rfl) ?_
       have u := Un u hw11
       have u := Un u hw12
       by_cases c14 : validL (trAs (setL Ls y L)) x
       ·refine Zct 52 (valid_any (m12.more (B' := w12.heap.size) (by omega)) x (Nat.le_refl _) (Tt.up u rg)) rfl rfl ?_
        rintro u15 w15 ⟨e15, hw15⟩
        have zw15 := hw15.size
        obtain rfl : u15 = .bool true := e15.trans (congrArg Value.bool (decide_eq_true c14))
        refine Zt 52 (y_move rfl rfl) ?_
        refine Zt 52 (y_move rfl rfl) ?_
        have h := h.below (hw12.mono (by omega))
        have h := h.below (hw15.mono (by omega))
        have u := Un u hw15
        refine Zct 52 (valid_any (h.more (B' := w15.heap.size) (by omega)) x (Nat.le_refl _) (Tt.up u rg)) rfl rfl ?_
        rintro u16 w16 ⟨e16, hw16⟩
        have zw16 := hw16.size
        obtain rfl : u16 = .bool true := e16.trans (congrArg Value.bool (decide_eq_true (show validL (trAs Ls) x from (hvv.1 c14))))
        refine Zt 52 (yb (b := (true == true)) (show (true == true) = true from rfl) (y_beq (a := true) (b := true) hubo rfl rfl rfl)) ?_
        refine Zt 49 (y_pick false rfl rfl rfl) ?_
        refine Za (y_pick true rfl rfl rfl) ?_
        refine ZA ?_
        refine Zn (zk1 8 rfl fn) ?_
        refine cg_ret ?_
        have u := Un u hw16
        exact eg_ret_tmp rfl rfl ⟨_, rfl, rfl, u⟩
       ·refine Zct 52 (valid_any (m12.more (B' := w12.heap.size) (by omega)) x (Nat.le_refl _) (Tt.up u rg)) rfl rfl ?_
        rintro u17 w17 ⟨e17, hw17⟩
        have zw17 := hw17.size
        obtain rfl : u17 = .bool false := e17.trans (congrArg Value.bool (decide_eq_false c14))
        refine Zt 52 (y_move rfl rfl) ?_
        refine Zt 52 (y_move rfl rfl) ?_
        have h := h.below (hw12.mono (by omega))
        have h := h.below (hw17.mono (by omega))
        have u := Un u hw17
        refine Zct 52 (valid_any (h.more (B' := w17.heap.size) (by omega)) x (Nat.le_refl _) (Tt.up u rg)) rfl rfl ?_
        rintro u18 w18 ⟨e18, hw18⟩
        have zw18 := hw18.size
        obtain rfl : u18 = .bool false := e18.trans (congrArg Value.bool (decide_eq_false (show ¬ (validL (trAs Ls) x) from (fun q => c14 (hvv.2 q)))))
        refine Zt 52 (yb (b := (false == false)) (show (false == false) = true from rfl) (y_beq (a := false) (b := false) hubo rfl rfl rfl)) ?_
        refine Zt 49 (y_pick false rfl rfl rfl) ?_
        refine Za (y_pick true rfl rfl rfl) ?_
        refine ZA ?_
        refine Zn (zk1 8 rfl fn) ?_
        refine cg_ret ?_
        have u := Un u hw18
        exact eg_ret_tmp rfl rfl ⟨_, rfl, rfl, u⟩
      ·refine Zt 49 (yb (nd_t c13) (yi_neq rfl rfl rfl)) ?_
       refine Zt 49 (y_move rfl rfl) ?_
       refine Zf 52 ?_
       refine Zf 52 ?_
       refine Zf 52 ?_
       refine Zf 52 ?_
       refine Zf 52 ?_
       refine Zf 52 ?_
       refine Zf 52 ?_
       refine Zt 49 (y_pick true rfl rfl rfl) ?_
       refine Za (y_pick true rfl rfl rfl) ?_
       refine ZA ?_
       refine Zn (zk1 8 rfl fn) ?_
       refine cg_ret ?_
       have u := Un u hw11
       have u := Un u hw12
       exact eg_ret_tmp rfl rfl ⟨_, rfl, rfl, u⟩
    ·refine Zt 26 (yb (decide_eq_false c8) (y_call (isL_any x (Ls.length : Int) _) (by kernel_rfl) rfl rfl)) ?_
     refine Zt 26 (y_bnot rfl rfl) ?_
     refine Za (y_pick false rfl rfl rfl) ?_
     refine ZM ?_
     refine Zf 33 ?_
     refine Zf 33 ?_
     refine Zf 33 ?_
     refine Zf 33 ?_
     refine Zf 33 ?_
     refine Za (y_pick true rfl rfl rfl) ?_
     refine Zn (zk5 0 1 2 7 8 rfl rfl rfl rfl rfl (zk2 9 39 rfl rfl fn)) ?_
     refine cg_ct rfl ?_
     refine Zr ?_
     refine ZM ?_
     refine ZA ?_
     refine Zn (zk5 0 1 2 7 9 rfl rfl rfl rfl rfl (zk1 8 rfl fn)) ?_
     refine cg_ret ?_
     refine eg_seq_ret ?_
     have u := Un u hw2
     have u := Un u hw4
     have u := Un u hw7
     exact eg_ret_tmp rfl rfl ⟨_, rfl, rfl, u⟩
   ·refine Zct 21 (sane_any (h.more (B' := w4.heap.size) (by omega)) (Nat.le_refl _)) rfl rfl ?_
    rintro u19 w19 ⟨e19, hw19⟩
    have zw19 := hw19.size
    obtain rfl : u19 = .bool false := e19.trans (congrArg Value.bool (decide_eq_false c6))
    refine Zt 21 (y_bnot rfl rfl) ?_
    refine Za (y_pick false rfl rfl rfl) ?_
    refine ZM ?_
    refine Zf 26 ?_
    refine Zf 26 ?_
    refine Zf 26 ?_
    refine Zf 26 ?_
    refine Zf 26 ?_
    refine Za (y_pick true rfl rfl rfl) ?_
    refine ZM ?_
    refine Zf 33 ?_
    refine Zf 33 ?_
    refine Zf 33 ?_
    refine Zf 33 ?_
    refine Zf 33 ?_
    refine Za (y_pick true rfl rfl rfl) ?_
    refine Zn (zk5 0 1 2 7 8 rfl rfl rfl rfl rfl (zk2 9 39 rfl rfl fn)) ?_
    refine cg_ct rfl ?_
    refine Zr ?_
    refine ZM ?_
    refine ZA ?_
    refine Zn (zk5 0 1 2 7 9 rfl rfl rfl rfl rfl (zk1 8 rfl fn)) ?_
    refine cg_ret ?_
    refine eg_seq_ret ?_
    have u := Un u hw2
    have u := Un u hw4
    have u := Un u hw19
    exact eg_ret_tmp rfl rfl ⟨_, rfl, rfl, u⟩
 ·refine Zc (fewR_any (h.more (B' := w2.heap.size) (by omega)) (Nat.le_refl _)) rfl rfl ?_
  rintro u20 w20 ⟨e20, hw20⟩
  have zw20 := hw20.size
  obtain rfl : u20 = .bool false := e20.trans (congrArg Value.bool (decide_eq_false c3))
  refine Za (y_bnot rfl rfl) ?_
  refine ZM ?_
  refine Zf 16 ?_
  refine Zf 16 ?_
  refine Zf 16 ?_
  refine Za (y_pick true rfl rfl rfl) ?_
  refine ZM ?_
  refine Zf 21 ?_
  refine Zf 21 ?_
  refine Zf 21 ?_
  refine Za (y_pick true rfl rfl rfl) ?_
  refine ZM ?_
  refine Zf 26 ?_
  refine Zf 26 ?_
  refine Zf 26 ?_
  refine Zf 26 ?_
  refine Zf 26 ?_
  refine Za (y_pick true rfl rfl rfl) ?_
  refine ZM ?_
  refine Zf 33 ?_
  refine Zf 33 ?_
  refine Zf 33 ?_
  refine Zf 33 ?_
  refine Zf 33 ?_
  refine Za (y_pick true rfl rfl rfl) ?_
  refine Zn (zk5 0 1 2 7 8 rfl rfl rfl rfl rfl (zk2 9 39 rfl rfl fn)) ?_
  refine cg_ct rfl ?_
  refine Zr ?_
  refine ZM ?_
  refine ZA ?_
  refine Zn (zk5 0 1 2 7 9 rfl rfl rfl rfl rfl (zk1 8 rfl fn)) ?_
  refine cg_ret ?_
  refine eg_seq_ret ?_
  have u := Un u hw2
  have u := Un u hw20
  exact eg_ret_tmp rfl rfl ⟨_, rfl, rfl, u⟩
end Go.Proofs.YtfbnallapgokeaaGreatDoor
