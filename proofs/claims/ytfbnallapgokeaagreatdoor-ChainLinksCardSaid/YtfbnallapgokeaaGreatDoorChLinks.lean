/-
  Who made a node is below it.
-/
import Derived.Test.YtfbnallapgokeaaGreatDoorChAwake
import Derived.Test.YtfbnallapgokeaaGreatDoorTrRef
namespace Go.Proofs.YtfbnallapgokeaaGreatDoor
open Go.ChangeShapes Go.WideShapes Go.ChangeAt Go.RowKit
set_option linter.unusedVariables false

set_option maxRecDepth 20000
theorem link_valid {t : List Nd} {x c d : Int} (h : linkL t x c d) : validL t x := by
 obtain ⟨hx, hk, hc, hm, _⟩ := id h
 refine ⟨hx, fun _ => ?_⟩
 rcases hc with e | e
 ·exact .inl ⟨d, e ▸ hm, e ▸ h⟩
 ·exact .inr ⟨d, e ▸ hm, e ▸ h⟩
set_option maxHeartbeats 4000000 in
theorem chainLinks_any {W : World} {s : SlV} {Ls : List Nd} (h : RwNd W W.heap.size s Ls) (x c d : Int) (rg : Tt W) : Calls Tryz.prog 5 #[s.v, nv x, nv c, nv d] W fun e W' => ∃ v, e = .returned v ∧ v = .bool true ∧ Below W.heap.size W W' := by
 refine calls_cg (n := 88) Tryz.func5 rfl Tryz.ntmps5 (by simp) ?_
 show CG _ _ _ [(0, s.v), (1, nv x), (2, nv c), (3, nv d)] _ _
 have u := Below.refl W.heap.size W
 have q1 := h.len
 have q2 := h.cap
 refine Zr ?_
 refine ZA ?_
 refine Zn (zk5 0 1 2 3 8 rfl rfl rfl rfl rfl fn) ?_
 refine Zr ?_
 refine Zc (awakeC_any _ (Tt.up u rg)) rfl rfl ?_
 rintro _ w1 ⟨rfl, hw1⟩
 have zw1 := hw1.size
 refine ZA ?_
 refine Zn (zk5 0 1 2 3 8 rfl rfl rfl rfl rfl (zk1 9 rfl fn)) ?_
 refine cg_seq ?_
 refine Zr ?_
 refine ZM ?_
 have h := h.below (hw1.mono (by omega))
 by_cases c2 : trFew Ls
 ·refine Zc (fewR_any (h.more (B' := w1.heap.size) (by omega)) (Nat.le_refl _)) rfl rfl ?_
  rintro u3 w3 ⟨e3, hw3⟩
  have zw3 := hw3.size
  obtain rfl : u3 = .bool true := e3.trans (congrArg Value.bool (decide_eq_true c2))
  refine Za (y_bnot rfl rfl) ?_
  refine ZM ?_
  refine Zt 15 (y_move rfl rfl) ?_
  have h := h.below (hw3.mono (by omega))
  refine Zt 15 (y_lenM (el := 43) h.len (by kernel_rfl) rfl rfl) ?_
  by_cases c4 : 20 < (Ls.length : Int)
  ·refine Zt 15 (yb (decide_eq_true c4) (yi_gtr rfl rfl rfl)) ?_
   refine Za (y_pick false rfl rfl rfl) ?_
   refine ZM ?_
   refine Zf 20 ?_
   refine Zf 20 ?_
   refine Zf 20 ?_
   refine Za (y_pick true rfl rfl rfl) ?_
   refine Zn (zk5 0 1 2 3 8 rfl rfl rfl rfl rfl (zk2 9 24 rfl rfl fn)) ?_
   refine cg_ct rfl ?_
   refine Zr ?_
   refine ZM ?_
   refine ZA ?_
   refine Zn (zk5 0 1 2 3 9 rfl rfl rfl rfl rfl (zk1 8 rfl fn)) ?_
   refine cg_ret ?_
   refine eg_seq_ret ?_
   have u := Un u hw1
   have u := Un u hw3
   exact eg_ret_tmp rfl rfl ⟨_, rfl, rfl, u⟩
  ·refine Zt 15 (yb (decide_eq_false c4) (yi_gtr rfl rfl rfl)) ?_
   refine Za (y_pick false rfl rfl rfl) ?_
   refine ZM ?_
   refine Zt 20 (y_move rfl rfl) ?_
   by_cases c5 : trIs Ls
   ·have htr := c5
    have htl := trIs_le htr
    have hta := trAs_ok htr
    refine Zct 20 (sane_any (h.more (B' := w3.heap.size) (by omega)) (Nat.le_refl _)) rfl rfl ?_
    rintro u6 w6 ⟨e6, hw6⟩
    have zw6 := hw6.size
    obtain rfl : u6 = .bool true := e6.trans (congrArg Value.bool (decide_eq_true c5))
    refine Zt 20 (y_bnot rfl rfl) ?_
    refine Za (y_pick false rfl rfl rfl) ?_
    refine Zn (zk5 0 1 2 3 8 rfl rfl rfl rfl rfl (zk2 9 24 rfl rfl fn)) ?_
    refine cg_cf rfl ?_
    refine cg_skip ?_
    refine nx (zk5 0 1 2 3 8 rfl rfl rfl rfl rfl (zk1 9 rfl fn)) ?_
    refine Zr ?_
    refine ZM ?_
    refine ZM ?_
    refine ZM ?_
    refine ZM ?_
    have h := h.below (hw6.mono (by omega))
    have u := Un u hw1
    have u := Un u hw3
    have u := Un u hw6
    by_cases c7 : linkL (trAs Ls) x c d
    ·have hlk : linkL Ls x c d := by have z := c7; rwa [hta] at z
     obtain ⟨hx, hk2, hcc, hmm, _⟩ := id hlk
     refine Zc (link_any (h.more (B' := w6.heap.size) (by omega)) x c d (Nat.le_refl _) (Tt.up u rg)) rfl rfl ?_
     rintro u8 w8 ⟨e8, hw8⟩
     have zw8 := hw8.size
     obtain rfl : u8 = .bool true := e8.trans (congrArg Value.bool (decide_eq_true c7))
     refine ZA ?_
     refine Zn (zk5 0 1 2 3 8 rfl rfl rfl rfl rfl (zk2 9 10 rfl rfl fn)) ?_
     refine cg_seq ?_
     refine Zr ?_
     refine ZM ?_
     refine ZM ?_
     have h := h.below (hw8.mono (by omega))
     refine Za (y_lenM (el := 43) h.len (by kernel_rfl) rfl rfl) ?_
     refine Za (yb (decide_eq_true hx) (y_call (isL_any x (Ls.length : Int) _) (by kernel_rfl) rfl rfl)) ?_
     refine Za (y_bnot rfl rfl) ?_
     refine Zn (zk5 0 1 2 3 8 rfl rfl rfl rfl rfl (zk3 9 10 35 rfl rfl rfl fn)) ?_
     refine cg_cf rfl ?_
     refine cg_skip ?_
     refine nx (zk5 0 1 2 3 8 rfl rfl rfl rfl rfl (zk2 9 10 rfl rfl fn)) ?_
     refine cg_seq ?_
     refine cg_seq ?_
     have lex := hx.le
     obtain ⟨ebz9, eoz9, elz9, eLz9, eAz9, eBz9, egz9, ehz9, ecz9⟩ := h.at (x.toNat) (by have := h.len; omega)
     have enz9 : eLz9 = atN Ls (x.toNat) := (atN_some egz9).symm
     subst enz9
     refine cg_region ?_
     refine ZM ?_
     refine ZM ?_
     obtain ⟨eb10, eo10, el10, eL10, eA10, eB10, eg10, eh10, ec10⟩ := h.at (x.toNat) (by have := h.len; omega)
     obtain rfl : (atN Ls x.toNat) = eL10 := Option.some.inj (egz9.symm.trans eg10)
     refine Za (y_ixR (s := s) (el := 43) (k := 8) (i := x.toNat) (iI := x) eA10 (by kernel_rfl) (by kernel_rfl) (by omega) (by have := h.len; omega) rfl rfl rfl) ?_
     refine Za (y_fld (off := 0) (by kernel_rfl) rfl rfl) ?_
     refine Za (y_celld (ec10 0 _ rfl) (by kernel_rfl) rfl rfl) ?_
     refine Za (yb (nd_f hk2) (yi_neq rfl rfl rfl)) ?_
     refine Zn (zk5 0 1 2 3 8 rfl rfl rfl rfl rfl (zk3 9 10 52 rfl rfl rfl fn)) ?_
     refine cg_cf rfl ?_
     refine cg_skip ?_
     refine nx (zk5 0 1 2 3 8 rfl rfl rfl rfl rfl (zk2 9 10 rfl rfl fn)) ?_
     refine Zr ?_
     refine ZM ?_
     refine ZM ?_
     refine Zt 64 (y_move rfl rfl) ?_
     refine Zt 64 (y_bnot rfl rfl) ?_
     refine Zt 64 (y_move rfl rfl) ?_
     refine Zt 67 (y_move rfl rfl) ?_
     refine Zt 67 (y_move rfl rfl) ?_
     have u := Un u hw8
     refine Zct 67 (valid_any (h.more (B' := w8.heap.size) (by omega)) x (Nat.le_refl _) (Tt.up u rg)) rfl rfl ?_
     rintro u11 w11 ⟨e11, hw11⟩
     have zw11 := hw11.size
     obtain rfl : u11 = .bool true := e11.trans (congrArg Value.bool (decide_eq_true (show validL (trAs Ls) x from (by rw [hta]; exact link_valid hlk))))
     refine Zt 67 (y_move rfl rfl) ?_
     refine Zt 71 (y_move rfl rfl) ?_
     refine Zt 71 (y_move rfl rfl) ?_
     have h := h.below (hw11.mono (by omega))
     refine Zt 71 (y_lenM (el := 43) h.len (by kernel_rfl) rfl rfl) ?_
     have u := Un u hw11
     refine Zt 71 (y_call (parent_any c (Ls.length : Int) _ (Tt.up u rg).b) (by kernel_rfl) rfl rfl) ?_
     refine Zt 71 (y_move rfl rfl) ?_
     refine Zt 71 (yb (decide_eq_true (show (parI c (Ls.length : Int)) = x from (par_of_kid hx (inner_odd htr hx hk2) hcc))) (yi_eql rfl rfl rfl)) ?_
     refine Zt 67 (y_pick true rfl rfl rfl) ?_
     refine Zt 67 (y_move rfl rfl) ?_
     refine Zt 79 (y_move rfl rfl) ?_
     refine Zt 79 (y_move rfl rfl) ?_
     refine Zct 79 (resolve_any (h.more (B' := w11.heap.size) (by omega)) c (Nat.le_refl _) (Tt.up u rg).b) rfl rfl ?_
     rintro _ w12 ⟨s12, rfl, m12, hw12⟩
     have zw12 := hw12.size
     refine Zt 79 (y_move rfl rfl) ?_
     refine Zt 79 (yb (decide_eq_true (show d ∈ (resL (trAs Ls) c) from (by rw [hta]; exact hmm))) (y_call (has_any m12 d) (by kernel_rfl) rfl rfl)) ?_
     refine Zt 67 (y_pick true rfl rfl rfl) ?_
     refine Zt 64 (y_pick false rfl rfl rfl) ?_
     refine Za (y_pick true rfl rfl rfl) ?_
     refine ZA ?_
     refine Zn (zk1 8 rfl fn) ?_
     refine cg_ret ?_
     have u := Un u hw12
     exact eg_ret_tmp rfl rfl ⟨_, rfl, rfl, u⟩
    ·refine Zc (link_any (h.more (B' := w6.heap.size) (by omega)) x c d (Nat.le_refl _) (Tt.up u rg)) rfl rfl ?_
     rintro u13 w13 ⟨e13, hw13⟩
     have zw13 := hw13.size
     obtain rfl : u13 = .bool false := e13.trans (congrArg Value.bool (decide_eq_false c7))
     refine ZA ?_
     refine Zn (zk5 0 1 2 3 8 rfl rfl rfl rfl rfl (zk2 9 10 rfl rfl fn)) ?_
     refine cg_seq ?_
     refine Zr ?_
     refine ZM ?_
     refine ZM ?_
     have h := h.below (hw13.mono (by omega))
     refine Za (y_lenM (el := 43) h.len (by kernel_rfl) rfl rfl) ?_
     by_cases c14 : isN x (Ls.length : Int)
     ·have hx := c14
      refine Za (yb (decide_eq_true c14) (y_call (isL_any x (Ls.length : Int) _) (by kernel_rfl) rfl rfl)) ?_
      refine Za (y_bnot rfl rfl) ?_
      refine Zn (zk5 0 1 2 3 8 rfl rfl rfl rfl rfl (zk3 9 10 35 rfl rfl rfl fn)) ?_
      refine cg_cf rfl ?_
      refine cg_skip ?_
      refine nx (zk5 0 1 2 3 8 rfl rfl rfl rfl rfl (zk2 9 10 rfl rfl fn)) ?_
      refine cg_seq ?_
      refine cg_seq ?_
      have lex := hx.le
      obtain ⟨ebz15, eoz15, elz15, eLz15, eAz15, eBz15, egz15, ehz15, ecz15⟩ := h.at (x.toNat) (by have := h.len; omega)
      have enz15 : eLz15 = atN Ls (x.toNat) := (atN_some egz15).symm
      subst enz15
      refine cg_region ?_
      refine ZM ?_
      refine ZM ?_
      obtain ⟨eb16, eo16, el16, eL16, eA16, eB16, eg16, eh16, ec16⟩ := h.at (x.toNat) (by have := h.len; omega)
      obtain rfl : (atN Ls x.toNat) = eL16 := Option.some.inj (egz15.symm.trans eg16)
      refine Za (y_ixR (s := s) (el := 43) (k := 8) (i := x.toNat) (iI := x) eA16 (by kernel_rfl) (by kernel_rfl) (by omega) (by have := h.len; omega) rfl rfl rfl) ?_
      refine Za (y_fld (off := 0) (by kernel_rfl) rfl rfl) ?_
      refine Za (y_celld (ec16 0 _ rfl) (by kernel_rfl) rfl rfl) ?_
      by_cases c17 : (atN Ls x.toNat).kind = 2
      ·refine Za (yb (nd_f c17) (yi_neq rfl rfl rfl)) ?_
       refine Zn (zk5 0 1 2 3 8 rfl rfl rfl rfl rfl (zk3 9 10 52 rfl rfl rfl fn)) ?_
       refine cg_cf rfl ?_
       refine cg_skip ?_
       refine nx (zk5 0 1 2 3 8 rfl rfl rfl rfl rfl (zk2 9 10 rfl rfl fn)) ?_
       refine Zr ?_
       refine ZM ?_
       refine ZM ?_
       refine Zt 64 (y_move rfl rfl) ?_
       refine Zt 64 (y_bnot rfl rfl) ?_
       refine Zt 64 (y_move rfl rfl) ?_
       refine Zf 67 ?_
       refine Zf 67 ?_
       refine Zf 67 ?_
       refine Zf 67 ?_
       refine Zu 71 ?_
       refine Zu 71 ?_
       refine Zu 71 ?_
       refine Zu 71 ?_
       refine Zu 71 ?_
       refine Zu 71 ?_
       refine Zf 67 ?_
       refine Zf 67 ?_
       refine Zu 79 ?_
       refine Zu 79 ?_
       refine Zu 79 ?_
       refine Zu 79 ?_
       refine Zu 79 ?_
       refine Zf 67 ?_
       refine Zt 64 (y_pick true rfl rfl rfl) ?_
       refine Za (y_pick true rfl rfl rfl) ?_
       refine ZA ?_
       refine Zn (zk1 8 rfl fn) ?_
       refine cg_ret ?_
       have u := Un u hw13
       exact eg_ret_tmp rfl rfl ⟨_, rfl, rfl, u⟩
      ·refine Za (yb (nd_t c17) (yi_neq rfl rfl rfl)) ?_
       refine Zn (zk5 0 1 2 3 8 rfl rfl rfl rfl rfl (zk3 9 10 52 rfl rfl rfl fn)) ?_
       refine cg_ct rfl ?_
       refine Zr ?_
       refine ZM ?_
       refine ZM ?_
       refine Zt 54 (y_move rfl rfl) ?_
       refine Zt 54 (y_bnot rfl rfl) ?_
       refine Za (y_pick true rfl rfl rfl) ?_
       refine ZM ?_
       refine Zt 58 (y_move rfl rfl) ?_
       refine Zt 58 (y_move rfl rfl) ?_
       have u := Un u hw13
       refine Zct 58 (valid_any (h.more (B' := w13.heap.size) (by omega)) x (Nat.le_refl _) (Tt.up u rg)) rfl rfl ?_
       rintro u18 w18 ⟨e18, hw18⟩
       have zw18 := hw18.size
       obtain rfl : u18 = .bool true := e18.trans (congrArg Value.bool (decide_eq_true (show validL (trAs Ls) x from (by rw [hta]; exact ⟨hx, fun q => absurd q c17⟩))))
       refine Za (y_pick true rfl rfl rfl) ?_
       refine ZA ?_
       refine Zn (zk5 0 1 2 3 9 rfl rfl rfl rfl rfl (zk2 10 8 rfl rfl fn)) ?_
       refine cg_ret ?_
       refine eg_seq_ret ?_
       have u := Un u hw18
       exact eg_ret_tmp rfl rfl ⟨_, rfl, rfl, u⟩
     ·refine Za (yb (decide_eq_false c14) (y_call (isL_any x (Ls.length : Int) _) (by kernel_rfl) rfl rfl)) ?_
      refine Za (y_bnot rfl rfl) ?_
      refine Zn (zk5 0 1 2 3 8 rfl rfl rfl rfl rfl (zk3 9 10 35 rfl rfl rfl fn)) ?_
      refine cg_ct rfl ?_
      refine Zr ?_
      refine ZM ?_
      refine ZM ?_
      refine Zt 37 (y_move rfl rfl) ?_
      refine Zt 37 (y_bnot rfl rfl) ?_
      refine Za (y_pick true rfl rfl rfl) ?_
      refine ZM ?_
      refine Zt 41 (y_move rfl rfl) ?_
      refine Zt 41 (y_move rfl rfl) ?_
      have u := Un u hw13
      refine Zct 41 (valid_any (h.more (B' := w13.heap.size) (by omega)) x (Nat.le_refl _) (Tt.up u rg)) rfl rfl ?_
      rintro u19 w19 ⟨e19, hw19⟩
      have zw19 := hw19.size
      obtain rfl : u19 = .bool false := e19.trans (congrArg Value.bool (decide_eq_false (show ¬ (validL (trAs Ls) x) from (fun q => c14 (by have z := q.1; rwa [hta] at z)))))
      refine Zt 41 (y_bnot rfl rfl) ?_
      refine Za (y_pick true rfl rfl rfl) ?_
      refine ZA ?_
      refine Zn (zk5 0 1 2 3 9 rfl rfl rfl rfl rfl (zk2 10 8 rfl rfl fn)) ?_
      refine cg_ret ?_
      refine eg_seq_ret ?_
      have u := Un u hw19
      exact eg_ret_tmp rfl rfl ⟨_, rfl, rfl, u⟩
   ·refine Zct 20 (sane_any (h.more (B' := w3.heap.size) (by omega)) (Nat.le_refl _)) rfl rfl ?_
    rintro u20 w20 ⟨e20, hw20⟩
    have zw20 := hw20.size
    obtain rfl : u20 = .bool false := e20.trans (congrArg Value.bool (decide_eq_false c5))
    refine Zt 20 (y_bnot rfl rfl) ?_
    refine Za (y_pick false rfl rfl rfl) ?_
    refine Zn (zk5 0 1 2 3 8 rfl rfl rfl rfl rfl (zk2 9 24 rfl rfl fn)) ?_
    refine cg_ct rfl ?_
    refine Zr ?_
    refine ZM ?_
    refine ZA ?_
    refine Zn (zk5 0 1 2 3 9 rfl rfl rfl rfl rfl (zk1 8 rfl fn)) ?_
    refine cg_ret ?_
    refine eg_seq_ret ?_
    have u := Un u hw1
    have u := Un u hw3
    have u := Un u hw20
    exact eg_ret_tmp rfl rfl ⟨_, rfl, rfl, u⟩
 ·refine Zc (fewR_any (h.more (B' := w1.heap.size) (by omega)) (Nat.le_refl _)) rfl rfl ?_
  rintro u21 w21 ⟨e21, hw21⟩
  have zw21 := hw21.size
  obtain rfl : u21 = .bool false := e21.trans (congrArg Value.bool (decide_eq_false c2))
  refine Za (y_bnot rfl rfl) ?_
  refine ZM ?_
  refine Zf 15 ?_
  refine Zf 15 ?_
  refine Zf 15 ?_
  refine Za (y_pick true rfl rfl rfl) ?_
  refine ZM ?_
  refine Zf 20 ?_
  refine Zf 20 ?_
  refine Zf 20 ?_
  refine Za (y_pick true rfl rfl rfl) ?_
  refine Zn (zk5 0 1 2 3 8 rfl rfl rfl rfl rfl (zk2 9 24 rfl rfl fn)) ?_
  refine cg_ct rfl ?_
  refine Zr ?_
  refine ZM ?_
  refine ZA ?_
  refine Zn (zk5 0 1 2 3 9 rfl rfl rfl rfl rfl (zk1 8 rfl fn)) ?_
  refine cg_ret ?_
  refine eg_seq_ret ?_
  have u := Un u hw1
  have u := Un u hw21
  exact eg_ret_tmp rfl rfl ⟨_, rfl, rfl, u⟩
end Go.Proofs.YtfbnallapgokeaaGreatDoor
