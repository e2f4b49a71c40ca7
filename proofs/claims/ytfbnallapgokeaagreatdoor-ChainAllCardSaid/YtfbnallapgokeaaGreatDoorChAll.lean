/-
  All are valid just if each is.
-/
import Derived.Test.YtfbnallapgokeaaGreatDoorChAwake
import Derived.Test.YtfbnallapgokeaaGreatDoorTrRef
namespace Go.Proofs.YtfbnallapgokeaaGreatDoor
open Go.ChangeShapes Go.WideShapes Go.ChangeAt Go.RowKit
set_option linter.unusedVariables false

set_option maxRecDepth 20000
theorem lone_no {t : List Nd} {x : Int} (h : validL t x) (hk : (atN t x.toNat).kind = 2) (hz : (resL t (leftI x (t.length : Int))).length + (resL t (rightI x (t.length : Int))).length = 0) : False := by
 rcases h.2 hk with ⟨d, hd, _⟩ | ⟨d, hd, _⟩
 ·rw [List.eq_nil_of_length_eq_zero (show (resL t (leftI x (t.length : Int))).length = 0 by omega)] at hd
  cases hd
 ·rw [List.eq_nil_of_length_eq_zero (show (resL t (rightI x (t.length : Int))).length = 0 by omega)] at hd
  cases hd
set_option maxHeartbeats 4000000 in
theorem chainAll_any {W : World} {s : SlV} {Ls : List Nd} (h : RwNd W W.heap.size s Ls) (rg : Tt W) : Calls Tryz.prog 6 #[s.v] W fun e W' => ∃ v, e = .returned v ∧ v = .bool true ∧ Below W.heap.size W W' := by
 refine calls_cg (n := 85) Tryz.func6 rfl Tryz.ntmps6 (by simp) ?_
 show CG _ _ _ [(0, s.v)] _ _
 have u := Below.refl W.heap.size W
 have q1 := h.len
 have q2 := h.cap
 refine Zr ?_
 refine ZA ?_
 refine Zn (zk2 0 2 rfl rfl fn) ?_
 refine Zr ?_
 refine Zc (awakeC_any _ (Tt.up u rg)) rfl rfl ?_
 rintro _ w1 ⟨rfl, hw1⟩
 have zw1 := hw1.size
 refine ZA ?_
 refine Zn (zk3 0 2 3 rfl rfl rfl fn) ?_
 refine cg_seq ?_
 refine Zr ?_
 refine ZM ?_
 have h := h.below (hw1.mono (by omega))
 by_cases c2 : trFew Ls
 ·refine Zc (fewR_any (h.more (B' := w1.heap.size) (by omega)) (Nat.le_refl _)) rfl rfl ?_
  rintro u3 w3 ⟨e3, hw3⟩
  have zw3 := hw3.size
  obtain rfl : u3 = .bool true := e3.trans (congrArg Value.bool (decide_eq_true c2))
  refine Za (y_bnot rfl rfl) ?_
  refine ZM ?_
  refine Zt 14 (y_move rfl rfl) ?_
  have h := h.below (hw3.mono (by omega))
  refine Zt 14 (y_lenM (el := 43) h.len (by kernel_rfl) rfl rfl) ?_
  by_cases c4 : 20 < (Ls.length : Int)
  ·refine Zt 14 (yb (decide_eq_true c4) (yi_gtr rfl rfl rfl)) ?_
   refine Za (y_pick false rfl rfl rfl) ?_
   refine ZM ?_
   refine Zf 19 ?_
   refine Zf 19 ?_
   refine Zf 19 ?_
   refine Za (y_pick true rfl rfl rfl) ?_
   refine Zn (zk3 0 2 3 rfl rfl rfl (zk1 23 rfl fn)) ?_
   refine cg_ct rfl ?_
   refine Zr ?_
   refine ZM ?_
   refine ZA ?_
   refine Zn (zk3 0 3 2 rfl rfl rfl fn) ?_
   refine cg_ret ?_
   refine eg_seq_ret ?_
   have u := Un u hw1
   have u := Un u hw3
   exact eg_ret_tmp rfl rfl ⟨_, rfl, rfl, u⟩
  ·refine Zt 14 (yb (decide_eq_false c4) (yi_gtr rfl rfl rfl)) ?_
   refine Za (y_pick false rfl rfl rfl) ?_
   refine ZM ?_
   refine Zt 19 (y_move rfl rfl) ?_
   by_cases c5 : trIs Ls
   ·have htr := c5
    have htl := trIs_le htr
    have hta := trAs_ok htr
    refine Zct 19 (sane_any (h.more (B' := w3.heap.size) (by omega)) (Nat.le_refl _)) rfl rfl ?_
    rintro u6 w6 ⟨e6, hw6⟩
    have zw6 := hw6.size
    obtain rfl : u6 = .bool true := e6.trans (congrArg Value.bool (decide_eq_true c5))
    refine Zt 19 (y_bnot rfl rfl) ?_
    refine Za (y_pick false rfl rfl rfl) ?_
    refine Zn (zk3 0 2 3 rfl rfl rfl (zk1 23 rfl fn)) ?_
    refine cg_cf rfl ?_
    refine cg_skip ?_
    refine nx (zk3 0 2 3 rfl rfl rfl fn) ?_
    refine Zr ?_
    refine ZA ?_
    refine Zn (zk3 0 2 3 rfl rfl rfl (zk1 4 rfl fn)) ?_
    refine Zr ?_
    refine ZA ?_
    refine Zn (zk5 0 2 3 4 5 rfl rfl rfl rfl rfl fn) ?_
    refine Zr ?_
    refine ZA ?_
    refine Zn (zk5 0 2 3 4 5 rfl rfl rfl rfl rfl (zk1 6 rfl fn)) ?_
    refine cg_seq ?_
    refine Zr ?_
    refine ZA ?_
    refine Zn (zk5 0 2 3 4 5 rfl rfl rfl rfl rfl (zk2 6 7 rfl rfl fn)) ?_
    refine cg_block ?_
    obtain ⟨C, hC⟩ : ∃ q, q = w6.heap.size := ⟨_, rfl⟩
    have h := h.below (hw6.mono (by omega))
    have u := Un u hw1
    have u := Un u hw3
    have u := Un u hw6
    refine cg_loopE (fun t a v => ∃ (ba : Bool) (bi : Bool) (bl : Bool), Holds 85 [(0, s.v), (3, .bool true), (4, .bool ba), (5, .bool bi), (6, .bool bl), (7, nv ((t : Nat) : Int))] a ∧ RwNd v W.heap.size s Ls ∧ Below W.heap.size W v ∧ C ≤ v.heap.size ∧ W.heap.size ≤ C ∧ t ≤ Ls.length ∧ (ba = true ↔ (∀ j, j < t → validL (trAs Ls) (j : Int))) ∧ (bi = true ↔ (∃ j, j < t ∧ (atN Ls j).kind = 2)) ∧ (bl = true ↔ (∃ j, j < t ∧ (atN Ls j).kind = 2 ∧ (resL (trAs Ls) (leftI (j : Int) (Ls.length : Int))).length + (resL (trAs Ls) (rightI (j : Int) (Ls.length : Int))).length = 0))) (Ls.length + 1) (fun a ha => ⟨true, false, false, ha.keep (fk rfl (fk rfl (fk rfl (fk rfl (fk rfl (fk rfl fn)))))), h, u, (Nat.le_of_eq hC), (by omega), (Nat.zero_le _), ⟨fun _ j hj => absurd hj (Nat.not_lt_zero _), fun _ => rfl⟩, ⟨(fun q => by cases q), fun ⟨j, hj, _⟩ => absurd hj (Nat.not_lt_zero _)⟩, ⟨(fun q => by cases q), fun ⟨j, hj, _⟩ => absurd hj (Nat.not_lt_zero _)⟩⟩) ?_
    rintro t a v ht ⟨ba, bi, bl, ha, h, u, cC, cW, tle, fa, fi, fl⟩
    refine cg_at ha ?_
    clear ha a
    have zv := u.size
    have q1 := h.len
    have q2 := h.cap
    refine cg_seq ?_
    refine Zr ?_
    refine ZM ?_
    refine ZM ?_
    refine Za (y_lenM (el := 43) h.len (by kernel_rfl) rfl rfl) ?_
    by_cases c7 : ((t : Nat) : Int) < (Ls.length : Int)
    ·refine Za (yb (decide_eq_true c7) (yi_lss rfl rfl rfl)) ?_
     refine Zn (zk5 0 3 4 5 6 rfl rfl rfl rfl rfl (zk2 7 28 rfl rfl fn)) ?_
     refine cg_ct rfl ?_
     refine cg_skip ?_
     refine nx (zk5 0 3 4 5 6 rfl rfl rfl rfl rfl (zk1 7 rfl fn)) ?_
     refine cg_seq ?_
     refine cg_block ?_
     refine Zr ?_
     cases ba
     ·refine ZM ?_
      refine ZM ?_
      refine Zf 32 ?_
      refine Zf 32 ?_
      refine Zf 32 ?_
      refine Za (y_pick false rfl rfl rfl) ?_
      refine ZA ?_
      refine Zn (zk5 0 3 5 6 7 rfl rfl rfl rfl rfl (zk1 4 rfl fn)) ?_
      refine cg_seq ?_
      have htn : t < Ls.length := by omega
      obtain ⟨ebz8, eoz8, elz8, eLz8, eAz8, eBz8, egz8, ehz8, ecz8⟩ := h.at (t) (by have := h.len; omega)
      have enz8 : eLz8 = atN Ls (t) := (atN_some egz8).symm
      subst enz8
      refine cg_region ?_
      refine ZM ?_
      refine ZM ?_
      obtain ⟨eb9, eo9, el9, eL9, eA9, eB9, eg9, eh9, ec9⟩ := h.at (t) (by have := h.len; omega)
      obtain rfl : (atN Ls t) = eL9 := Option.some.inj (egz8.symm.trans eg9)
      refine Za (y_ixR (s := s) (el := 43) (k := 8) (i := t) (iI := ((t : Nat) : Int)) eA9 (by kernel_rfl) (by kernel_rfl) (by omega) (by have := h.len; omega) rfl rfl rfl) ?_
      refine Za (y_fld (off := 0) (by kernel_rfl) rfl rfl) ?_
      refine Za (y_celld (ec9 0 _ rfl) (by kernel_rfl) rfl rfl) ?_
      by_cases c10 : (atN Ls t).kind = 2
      ·refine Za (yb (decide_eq_true c10) (yi_eql rfl rfl rfl)) ?_
       refine Zn (zk5 0 3 5 6 7 rfl rfl rfl rfl rfl (zk2 4 42 rfl rfl fn)) ?_
       refine cg_ct rfl ?_
       refine Zr ?_
       refine ZA ?_
       refine Zn (zk5 0 3 6 7 4 rfl rfl rfl rfl rfl (zk1 5 rfl fn)) ?_
       refine cg_seq ?_
       have rl1 := res_len (trAs_is Ls) (leftI ((t : Nat) : Int) (Ls.length : Int))
       have rl2 := res_len (trAs_is Ls) (rightI ((t : Nat) : Int) (Ls.length : Int))
       refine cg_region ?_
       refine ZM ?_
       refine ZM ?_
       refine ZM ?_
       refine Za (y_lenM (el := 43) h.len (by kernel_rfl) rfl rfl) ?_
       refine Za (y_call (left_any ((t : Nat) : Int) (Ls.length : Int) _ (Tt.up u rg).b) (by kernel_rfl) rfl rfl) ?_
       refine Zc (resolve_any (h.more (B' := v.heap.size) (by omega)) (leftI ((t : Nat) : Int) (Ls.length : Int)) (Nat.le_refl _) (Tt.up u rg).b) rfl rfl ?_
       rintro _ w11 ⟨s11, rfl, m11, hw11⟩
       have zw11 := hw11.size
       refine Za (y_lenM (el := 3) m11.len (by kernel_rfl) rfl rfl) ?_
       refine ZM ?_
       refine ZM ?_
       refine ZM ?_
       have h := h.below (hw11.mono (by omega))
       refine Za (y_lenM (el := 43) h.len (by kernel_rfl) rfl rfl) ?_
       have u := Un u hw11
       refine Za (y_call (right_any ((t : Nat) : Int) (Ls.length : Int) _ (Tt.up u rg).b) (by kernel_rfl) rfl rfl) ?_
       refine Zc (resolve_any (h.more (B' := w11.heap.size) (by omega)) (rightI ((t : Nat) : Int) (Ls.length : Int)) (Nat.le_refl _) (Tt.up u rg).b) rfl rfl ?_
       rintro _ w12 ⟨s12, rfl, m12, hw12⟩
       have zw12 := hw12.size
       refine Za (y_lenM (el := 3) m12.len (by kernel_rfl) rfl rfl) ?_
       refine Za (yi_add rfl rfl rfl (by omega) (by omega)) ?_
       refine ZA ?_
       refine Zn (zk5 0 3 6 7 4 rfl rfl rfl rfl rfl (zk2 5 8 rfl rfl fn)) ?_
       refine cg_region ?_
       cases bl
       ·refine ZM ?_
        refine ZM ?_
        refine Zt 59 (y_move rfl rfl) ?_
        by_cases c13 : (((resL (trAs Ls) (leftI ((t : Nat) : Int) (Ls.length : Int))).length : Int) + ((resL (trAs Ls) (rightI ((t : Nat) : Int) (Ls.length : Int))).length : Int)) = 0
        ·refine Zt 59 (yb (decide_eq_true c13) (yi_eql rfl rfl rfl)) ?_
         refine Za (y_pick false rfl rfl rfl) ?_
         refine ZA ?_
         refine lg_nil ?_
         refine eg_block_norm ?_
         refine nx (zk5 0 3 7 4 5 rfl rfl rfl rfl rfl (zk1 6 rfl fn)) ?_
         refine cg_region ?_
         refine ZM ?_
         refine Za (yv (congrArg nv (show ((t : Nat) : Int) + 1 = ((t + 1 : Nat) : Int) by omega)) (yi_add rfl rfl rfl (by omega) (by omega))) ?_
         refine ZA ?_
         refine lg_nil ?_
         have h := h.below (hw12.mono (by omega))
         have u := Un u hw12
         exact fun a ha => (show t < (Ls.length + 1) ∧ _ from ⟨(by omega), false, true, true, ha.keep (fk rfl (fk rfl (fk rfl (fk rfl (fk rfl (fk rfl fn)))))), h, u, (by omega), cW, (by omega), ⟨(fun q => by cases q), fun q => fa.2 fun j hj => q j (by omega)⟩, ⟨fun _ => ⟨t, by omega, c10⟩, fun _ => rfl⟩, ⟨fun _ => ⟨t, by omega, c10, by have z := c13; omega⟩, fun _ => rfl⟩⟩)
        ·refine Zt 59 (yb (decide_eq_false c13) (yi_eql rfl rfl rfl)) ?_
         refine Za (y_pick false rfl rfl rfl) ?_
         refine ZA ?_
         refine lg_nil ?_
         refine eg_block_norm ?_
         refine nx (zk5 0 3 7 4 5 rfl rfl rfl rfl rfl (zk1 6 rfl fn)) ?_
         refine cg_region ?_
         refine ZM ?_
         refine Za (yv (congrArg nv (show ((t : Nat) : Int) + 1 = ((t + 1 : Nat) : Int) by omega)) (yi_add rfl rfl rfl (by omega) (by omega))) ?_
         refine ZA ?_
         refine lg_nil ?_
         have h := h.below (hw12.mono (by omega))
         have u := Un u hw12
         exact fun a ha => (show t < (Ls.length + 1) ∧ _ from ⟨(by omega), false, true, false, ha.keep (fk rfl (fk rfl (fk rfl (fk rfl (fk rfl (fk rfl fn)))))), h, u, (by omega), cW, (by omega), ⟨(fun q => by cases q), fun q => fa.2 fun j hj => q j (by omega)⟩, ⟨fun _ => ⟨t, by omega, c10⟩, fun _ => rfl⟩, ⟨(fun q => by cases q), fun ⟨j, hj, q⟩ => if z : j < t then fl.2 ⟨j, z, q⟩ else absurd ((show j = t by omega) ▸ q.2) (fun y => c13 (by omega))⟩⟩)
       ·refine ZM ?_
        refine ZM ?_
        refine Zf 59 ?_
        refine Zf 59 ?_
        refine Za (y_pick true rfl rfl rfl) ?_
        refine ZA ?_
        refine lg_nil ?_
        refine eg_block_norm ?_
        refine nx (zk5 0 3 7 4 5 rfl rfl rfl rfl rfl (zk1 6 rfl fn)) ?_
        refine cg_region ?_
        refine ZM ?_
        refine Za (yv (congrArg nv (show ((t : Nat) : Int) + 1 = ((t + 1 : Nat) : Int) by omega)) (yi_add rfl rfl rfl (by omega) (by omega))) ?_
        refine ZA ?_
        refine lg_nil ?_
        have h := h.below (hw12.mono (by omega))
        have u := Un u hw12
        exact fun a ha => (show t < (Ls.length + 1) ∧ _ from ⟨(by omega), false, true, true, ha.keep (fk rfl (fk rfl (fk rfl (fk rfl (fk rfl (fk rfl fn)))))), h, u, (by omega), cW, (by omega), ⟨(fun q => by cases q), fun q => fa.2 fun j hj => q j (by omega)⟩, ⟨fun _ => ⟨t, by omega, c10⟩, fun _ => rfl⟩, ⟨fun _ => (fl.1 rfl).imp fun j ⟨hj, q⟩ => ⟨by omega, q⟩, fun _ => rfl⟩⟩)
      ·refine Za (yb (decide_eq_false c10) (yi_eql rfl rfl rfl)) ?_
       refine Zn (zk5 0 3 5 6 7 rfl rfl rfl rfl rfl (zk2 4 42 rfl rfl fn)) ?_
       refine cg_cf rfl ?_
       refine cg_skip ?_
       refine eg_block_norm ?_
       refine nx (zk5 0 3 5 6 7 rfl rfl rfl rfl rfl (zk1 4 rfl fn)) ?_
       refine cg_region ?_
       refine ZM ?_
       refine Za (yv (congrArg nv (show ((t : Nat) : Int) + 1 = ((t + 1 : Nat) : Int) by omega)) (yi_add rfl rfl rfl (by omega) (by omega))) ?_
       refine ZA ?_
       refine lg_nil ?_
       exact fun a ha => (show t < (Ls.length + 1) ∧ _ from ⟨(by omega), false, bi, bl, ha.keep (fk rfl (fk rfl (fk rfl (fk rfl (fk rfl (fk rfl fn)))))), h, u, (by omega), cW, (by omega), ⟨(fun q => by cases q), fun q => fa.2 fun j hj => q j (by omega)⟩, (fi.trans ⟨fun ⟨j, hj, q⟩ => ⟨j, by omega, q⟩, fun ⟨j, hj, q⟩ => ⟨j, (if z : j < t then z else absurd ((show j = t by omega) ▸ q) c10), q⟩⟩), (fl.trans ⟨fun ⟨j, hj, q⟩ => ⟨j, by omega, q⟩, fun ⟨j, hj, q⟩ => ⟨j, (if z : j < t then z else absurd ((show j = t by omega) ▸ q.1) c10), q⟩⟩)⟩)
     ·refine ZM ?_
      refine ZM ?_
      refine Zt 32 (y_move rfl rfl) ?_
      refine Zt 32 (y_move rfl rfl) ?_
      by_cases c14 : validL (trAs Ls) ((t : Nat) : Int)
      ·refine Zct 32 (valid_any (h.more (B' := v.heap.size) (by omega)) ((t : Nat) : Int) (Nat.le_refl _) (Tt.up u rg)) rfl rfl ?_
       rintro u15 w15 ⟨e15, hw15⟩
       have zw15 := hw15.size
       obtain rfl : u15 = .bool true := e15.trans (congrArg Value.bool (decide_eq_true c14))
       refine Za (y_pick true rfl rfl rfl) ?_
       refine ZA ?_
       refine Zn (zk5 0 3 5 6 7 rfl rfl rfl rfl rfl (zk1 4 rfl fn)) ?_
       refine cg_seq ?_
       have htn : t < Ls.length := by omega
       have h := h.below (hw15.mono (by omega))
       obtain ⟨ebz16, eoz16, elz16, eLz16, eAz16, eBz16, egz16, ehz16, ecz16⟩ := h.at (t) (by have := h.len; omega)
       have enz16 : eLz16 = atN Ls (t) := (atN_some egz16).symm
       subst enz16
       refine cg_region ?_
       refine ZM ?_
       refine ZM ?_
       obtain ⟨eb17, eo17, el17, eL17, eA17, eB17, eg17, eh17, ec17⟩ := h.at (t) (by have := h.len; omega)
       obtain rfl : (atN Ls t) = eL17 := Option.some.inj (egz16.symm.trans eg17)
       refine Za (y_ixR (s := s) (el := 43) (k := 8) (i := t) (iI := ((t : Nat) : Int)) eA17 (by kernel_rfl) (by kernel_rfl) (by omega) (by have := h.len; omega) rfl rfl rfl) ?_
       refine Za (y_fld (off := 0) (by kernel_rfl) rfl rfl) ?_
       refine Za (y_celld (ec17 0 _ rfl) (by kernel_rfl) rfl rfl) ?_
       by_cases c18 : (atN Ls t).kind = 2
       ·refine Za (yb (decide_eq_true c18) (yi_eql rfl rfl rfl)) ?_
        refine Zn (zk5 0 3 5 6 7 rfl rfl rfl rfl rfl (zk2 4 42 rfl rfl fn)) ?_
        refine cg_ct rfl ?_
        refine Zr ?_
        refine ZA ?_
        refine Zn (zk5 0 3 6 7 4 rfl rfl rfl rfl rfl (zk1 5 rfl fn)) ?_
        refine cg_seq ?_
        have rl1 := res_len (trAs_is Ls) (leftI ((t : Nat) : Int) (Ls.length : Int))
        have rl2 := res_len (trAs_is Ls) (rightI ((t : Nat) : Int) (Ls.length : Int))
        refine cg_region ?_
        refine ZM ?_
        refine ZM ?_
        refine ZM ?_
        refine Za (y_lenM (el := 43) h.len (by kernel_rfl) rfl rfl) ?_
        have u := Un u hw15
        refine Za (y_call (left_any ((t : Nat) : Int) (Ls.length : Int) _ (Tt.up u rg).b) (by kernel_rfl) rfl rfl) ?_
        refine Zc (resolve_any (h.more (B' := w15.heap.size) (by omega)) (leftI ((t : Nat) : Int) (Ls.length : Int)) (Nat.le_refl _) (Tt.up u rg).b) rfl rfl ?_
        rintro _ w19 ⟨s19, rfl, m19, hw19⟩
        have zw19 := hw19.size
        refine Za (y_lenM (el := 3) m19.len (by kernel_rfl) rfl rfl) ?_
        refine ZM ?_
        refine ZM ?_
        refine ZM ?_
        have h := h.below (hw19.mono (by omega))
        refine Za (y_lenM (el := 43) h.len (by kernel_rfl) rfl rfl) ?_
        have u := Un u hw19
        refine Za (y_call (right_any ((t : Nat) : Int) (Ls.length : Int) _ (Tt.up u rg).b) (by kernel_rfl) rfl rfl) ?_
        refine Zc (resolve_any (h.more (B' := w19.heap.size) (by omega)) (rightI ((t : Nat) : Int) (Ls.length : Int)) (Nat.le_refl _) (Tt.up u rg).b) rfl rfl ?_
        rintro _ w20 ⟨s20, rfl, m20, hw20⟩
        have zw20 := hw20.size
        refine Za (y_lenM (el := 3) m20.len (by kernel_rfl) rfl rfl) ?_
        refine Za (yi_add rfl rfl rfl (by omega) (by omega)) ?_
        refine ZA ?_
        refine Zn (zk5 0 3 6 7 4 rfl rfl rfl rfl rfl (zk2 5 8 rfl rfl fn)) ?_
        refine cg_region ?_
        cases bl
        ·refine ZM ?_
         refine ZM ?_
         refine Zt 59 (y_move rfl rfl) ?_
         by_cases c21 : (((resL (trAs Ls) (leftI ((t : Nat) : Int) (Ls.length : Int))).length : Int) + ((resL (trAs Ls) (rightI ((t : Nat) : Int) (Ls.length : Int))).length : Int)) = 0
         ·refine Zt 59 (yb (decide_eq_true c21) (yi_eql rfl rfl rfl)) ?_
          refine Za (y_pick false rfl rfl rfl) ?_
          refine ZA ?_
          refine lg_nil ?_
          refine eg_block_norm ?_
          refine nx (zk5 0 3 7 4 5 rfl rfl rfl rfl rfl (zk1 6 rfl fn)) ?_
          refine cg_region ?_
          refine ZM ?_
          refine Za (yv (congrArg nv (show ((t : Nat) : Int) + 1 = ((t + 1 : Nat) : Int) by omega)) (yi_add rfl rfl rfl (by omega) (by omega))) ?_
          refine ZA ?_
          refine lg_nil ?_
          have h := h.below (hw20.mono (by omega))
          have u := Un u hw20
          exact fun a ha => (show t < (Ls.length + 1) ∧ _ from ⟨(by omega), true, true, true, ha.keep (fk rfl (fk rfl (fk rfl (fk rfl (fk rfl (fk rfl fn)))))), h, u, (by omega), cW, (by omega), ⟨fun _ j hj => if q : j < t then fa.1 rfl j q else (show j = t by omega) ▸ c14, fun _ => rfl⟩, ⟨fun _ => ⟨t, by omega, c18⟩, fun _ => rfl⟩, ⟨fun _ => ⟨t, by omega, c18, by have z := c21; omega⟩, fun _ => rfl⟩⟩)
         ·refine Zt 59 (yb (decide_eq_false c21) (yi_eql rfl rfl rfl)) ?_
          refine Za (y_pick false rfl rfl rfl) ?_
          refine ZA ?_
          refine lg_nil ?_
          refine eg_block_norm ?_
          refine nx (zk5 0 3 7 4 5 rfl rfl rfl rfl rfl (zk1 6 rfl fn)) ?_
          refine cg_region ?_
          refine ZM ?_
          refine Za (yv (congrArg nv (show ((t : Nat) : Int) + 1 = ((t + 1 : Nat) : Int) by omega)) (yi_add rfl rfl rfl (by omega) (by omega))) ?_
          refine ZA ?_
          refine lg_nil ?_
          have h := h.below (hw20.mono (by omega))
          have u := Un u hw20
          exact fun a ha => (show t < (Ls.length + 1) ∧ _ from ⟨(by omega), true, true, false, ha.keep (fk rfl (fk rfl (fk rfl (fk rfl (fk rfl (fk rfl fn)))))), h, u, (by omega), cW, (by omega), ⟨fun _ j hj => if q : j < t then fa.1 rfl j q else (show j = t by omega) ▸ c14, fun _ => rfl⟩, ⟨fun _ => ⟨t, by omega, c18⟩, fun _ => rfl⟩, ⟨(fun q => by cases q), fun ⟨j, hj, q⟩ => if z : j < t then fl.2 ⟨j, z, q⟩ else absurd ((show j = t by omega) ▸ q.2) (fun y => c21 (by omega))⟩⟩)
        ·refine ZM ?_
         refine ZM ?_
         refine Zf 59 ?_
         refine Zf 59 ?_
         refine Za (y_pick true rfl rfl rfl) ?_
         refine ZA ?_
         refine lg_nil ?_
         refine eg_block_norm ?_
         refine nx (zk5 0 3 7 4 5 rfl rfl rfl rfl rfl (zk1 6 rfl fn)) ?_
         refine cg_region ?_
         refine ZM ?_
         refine Za (yv (congrArg nv (show ((t : Nat) : Int) + 1 = ((t + 1 : Nat) : Int) by omega)) (yi_add rfl rfl rfl (by omega) (by omega))) ?_
         refine ZA ?_
         refine lg_nil ?_
         have h := h.below (hw20.mono (by omega))
         have u := Un u hw20
         exact fun a ha => (show t < (Ls.length + 1) ∧ _ from ⟨(by omega), true, true, true, ha.keep (fk rfl (fk rfl (fk rfl (fk rfl (fk rfl (fk rfl fn)))))), h, u, (by omega), cW, (by omega), ⟨fun _ j hj => if q : j < t then fa.1 rfl j q else (show j = t by omega) ▸ c14, fun _ => rfl⟩, ⟨fun _ => ⟨t, by omega, c18⟩, fun _ => rfl⟩, ⟨fun _ => (fl.1 rfl).imp fun j ⟨hj, q⟩ => ⟨by omega, q⟩, fun _ => rfl⟩⟩)
       ·refine Za (yb (decide_eq_false c18) (yi_eql rfl rfl rfl)) ?_
        refine Zn (zk5 0 3 5 6 7 rfl rfl rfl rfl rfl (zk2 4 42 rfl rfl fn)) ?_
        refine cg_cf rfl ?_
        refine cg_skip ?_
        refine eg_block_norm ?_
        refine nx (zk5 0 3 5 6 7 rfl rfl rfl rfl rfl (zk1 4 rfl fn)) ?_
        refine cg_region ?_
        refine ZM ?_
        refine Za (yv (congrArg nv (show ((t : Nat) : Int) + 1 = ((t + 1 : Nat) : Int) by omega)) (yi_add rfl rfl rfl (by omega) (by omega))) ?_
        refine ZA ?_
        refine lg_nil ?_
        have u := Un u hw15
        exact fun a ha => (show t < (Ls.length + 1) ∧ _ from ⟨(by omega), true, bi, bl, ha.keep (fk rfl (fk rfl (fk rfl (fk rfl (fk rfl (fk rfl fn)))))), h, u, (by omega), cW, (by omega), ⟨fun _ j hj => if q : j < t then fa.1 rfl j q else (show j = t by omega) ▸ c14, fun _ => rfl⟩, (fi.trans ⟨fun ⟨j, hj, q⟩ => ⟨j, by omega, q⟩, fun ⟨j, hj, q⟩ => ⟨j, (if z : j < t then z else absurd ((show j = t by omega) ▸ q) c18), q⟩⟩), (fl.trans ⟨fun ⟨j, hj, q⟩ => ⟨j, by omega, q⟩, fun ⟨j, hj, q⟩ => ⟨j, (if z : j < t then z else absurd ((show j = t by omega) ▸ q.1) c18), q⟩⟩)⟩)
      ·refine Zct 32 (valid_any (h.more (B' := v.heap.size) (by omega)) ((t : Nat) : Int) (Nat.le_refl _) (Tt.up u rg)) rfl rfl ?_
       rintro u22 w22 ⟨e22, hw22⟩
       have zw22 := hw22.size
       obtain rfl : u22 = .bool false := e22.trans (congrArg Value.bool (decide_eq_false c14))
       refine Za (y_pick true rfl rfl rfl) ?_
       refine ZA ?_
       refine Zn (zk5 0 3 5 6 7 rfl rfl rfl rfl rfl (zk1 4 rfl fn)) ?_
       refine cg_seq ?_
       have htn : t < Ls.length := by omega
       have h := h.below (hw22.mono (by omega))
       obtain ⟨ebz23, eoz23, elz23, eLz23, eAz23, eBz23, egz23, ehz23, ecz23⟩ := h.at (t) (by have := h.len; omega)
       have enz23 : eLz23 = atN Ls (t) := (atN_some egz23).symm
       subst enz23
       refine cg_region ?_
       refine ZM ?_
       refine ZM ?_
       obtain ⟨eb24, eo24, el24, eL24, eA24, eB24, eg24, eh24, ec24⟩ := h.at (t) (by have := h.len; omega)
       obtain rfl : (atN Ls t) = eL24 := Option.some.inj (egz23.symm.trans eg24)
       refine Za (y_ixR (s := s) (el := 43) (k := 8) (i := t) (iI := ((t : Nat) : Int)) eA24 (by kernel_rfl) (by kernel_rfl) (by omega) (by have := h.len; omega) rfl rfl rfl) ?_
       refine Za (y_fld (off := 0) (by kernel_rfl) rfl rfl) ?_
       refine Za (y_celld (ec24 0 _ rfl) (by kernel_rfl) rfl rfl) ?_
       by_cases c25 : (atN Ls t).kind = 2
       ·refine Za (yb (decide_eq_true c25) (yi_eql rfl rfl rfl)) ?_
        refine Zn (zk5 0 3 5 6 7 rfl rfl rfl rfl rfl (zk2 4 42 rfl rfl fn)) ?_
        refine cg_ct rfl ?_
        refine Zr ?_
        refine ZA ?_
        refine Zn (zk5 0 3 6 7 4 rfl rfl rfl rfl rfl (zk1 5 rfl fn)) ?_
        refine cg_seq ?_
        have rl1 := res_len (trAs_is Ls) (leftI ((t : Nat) : Int) (Ls.length : Int))
        have rl2 := res_len (trAs_is Ls) (rightI ((t : Nat) : Int) (Ls.length : Int))
        refine cg_region ?_
        refine ZM ?_
        refine ZM ?_
        refine ZM ?_
        refine Za (y_lenM (el := 43) h.len (by kernel_rfl) rfl rfl) ?_
        have u := Un u hw22
        refine Za (y_call (left_any ((t : Nat) : Int) (Ls.length : Int) _ (Tt.up u rg).b) (by kernel_rfl) rfl rfl) ?_
        refine Zc (resolve_any (h.more (B' := w22.heap.size) (by omega)) (leftI ((t : Nat) : Int) (Ls.length : Int)) (Nat.le_refl _) (Tt.up u rg).b) rfl rfl ?_
        rintro _ w26 ⟨s26, rfl, m26, hw26⟩
        have zw26 := hw26.size
        refine Za (y_lenM (el := 3) m26.len (by kernel_rfl) rfl rfl) ?_
        refine ZM ?_
        refine ZM ?_
        refine ZM ?_
        have h := h.below (hw26.mono (by omega))
        refine Za (y_lenM (el := 43) h.len (by kernel_rfl) rfl rfl) ?_
        have u := Un u hw26
        refine Za (y_call (right_any ((t : Nat) : Int) (Ls.length : Int) _ (Tt.up u rg).b) (by kernel_rfl) rfl rfl) ?_
        refine Zc (resolve_any (h.more (B' := w26.heap.size) (by omega)) (rightI ((t : Nat) : Int) (Ls.length : Int)) (Nat.le_refl _) (Tt.up u rg).b) rfl rfl ?_
        rintro _ w27 ⟨s27, rfl, m27, hw27⟩
        have zw27 := hw27.size
        refine Za (y_lenM (el := 3) m27.len (by kernel_rfl) rfl rfl) ?_
        refine Za (yi_add rfl rfl rfl (by omega) (by omega)) ?_
        refine ZA ?_
        refine Zn (zk5 0 3 6 7 4 rfl rfl rfl rfl rfl (zk2 5 8 rfl rfl fn)) ?_
        refine cg_region ?_
        cases bl
        ·refine ZM ?_
         refine ZM ?_
         refine Zt 59 (y_move rfl rfl) ?_
         by_cases c28 : (((resL (trAs Ls) (leftI ((t : Nat) : Int) (Ls.length : Int))).length : Int) + ((resL (trAs Ls) (rightI ((t : Nat) : Int) (Ls.length : Int))).length : Int)) = 0
         ·refine Zt 59 (yb (decide_eq_true c28) (yi_eql rfl rfl rfl)) ?_
          refine Za (y_pick false rfl rfl rfl) ?_
          refine ZA ?_
          refine lg_nil ?_
          refine eg_block_norm ?_
          refine nx (zk5 0 3 7 4 5 rfl rfl rfl rfl rfl (zk1 6 rfl fn)) ?_
          refine cg_region ?_
          refine ZM ?_
          refine Za (yv (congrArg nv (show ((t : Nat) : Int) + 1 = ((t + 1 : Nat) : Int) by omega)) (yi_add rfl rfl rfl (by omega) (by omega))) ?_
          refine ZA ?_
          refine lg_nil ?_
          have h := h.below (hw27.mono (by omega))
          have u := Un u hw27
          exact fun a ha => (show t < (Ls.length + 1) ∧ _ from ⟨(by omega), false, true, true, ha.keep (fk rfl (fk rfl (fk rfl (fk rfl (fk rfl (fk rfl fn)))))), h, u, (by omega), cW, (by omega), ⟨(fun q => by cases q), fun q => absurd (q t (by omega)) c14⟩, ⟨fun _ => ⟨t, by omega, c25⟩, fun _ => rfl⟩, ⟨fun _ => ⟨t, by omega, c25, by have z := c28; omega⟩, fun _ => rfl⟩⟩)
         ·refine Zt 59 (yb (decide_eq_false c28) (yi_eql rfl rfl rfl)) ?_
          refine Za (y_pick false rfl rfl rfl) ?_
          refine ZA ?_
          refine lg_nil ?_
          refine eg_block_norm ?_
          refine nx (zk5 0 3 7 4 5 rfl rfl rfl rfl rfl (zk1 6 rfl fn)) ?_
          refine cg_region ?_
          refine ZM ?_
          refine Za (yv (congrArg nv (show ((t : Nat) : Int) + 1 = ((t + 1 : Nat) : Int) by omega)) (yi_add rfl rfl rfl (by omega) (by omega))) ?_
          refine ZA ?_
          refine lg_nil ?_
          have h := h.below (hw27.mono (by omega))
          have u := Un u hw27
          exact fun a ha => (show t < (Ls.length + 1) ∧ _ from ⟨(by omega), false, true, false, ha.keep (fk rfl (fk rfl (fk rfl (fk rfl (fk rfl (fk rfl fn)))))), h, u, (by omega), cW, (by omega), ⟨(fun q => by cases q), fun q => absurd (q t (by omega)) c14⟩, ⟨fun _ => ⟨t, by omega, c25⟩, fun _ => rfl⟩, ⟨(fun q => by cases q), fun ⟨j, hj, q⟩ => if z : j < t then fl.2 ⟨j, z, q⟩ else absurd ((show j = t by omega) ▸ q.2) (fun y => c28 (by omega))⟩⟩)
        ·refine ZM ?_
         refine ZM ?_
         refine Zf 59 ?_
         refine Zf 59 ?_
         refine Za (y_pick true rfl rfl rfl) ?_
         refine ZA ?_
         refine lg_nil ?_
         refine eg_block_norm ?_
         refine nx (zk5 0 3 7 4 5 rfl rfl rfl rfl rfl (zk1 6 rfl fn)) ?_
         refine cg_region ?_
         refine ZM ?_
         refine Za (yv (congrArg nv (show ((t : Nat) : Int) + 1 = ((t + 1 : Nat) : Int) by omega)) (yi_add rfl rfl rfl (by omega) (by omega))) ?_
         refine ZA ?_
         refine lg_nil ?_
         have h := h.below (hw27.mono (by omega))
         have u := Un u hw27
         exact fun a ha => (show t < (Ls.length + 1) ∧ _ from ⟨(by omega), false, true, true, ha.keep (fk rfl (fk rfl (fk rfl (fk rfl (fk rfl (fk rfl fn)))))), h, u, (by omega), cW, (by omega), ⟨(fun q => by cases q), fun q => absurd (q t (by omega)) c14⟩, ⟨fun _ => ⟨t, by omega, c25⟩, fun _ => rfl⟩, ⟨fun _ => (fl.1 rfl).imp fun j ⟨hj, q⟩ => ⟨by omega, q⟩, fun _ => rfl⟩⟩)
       ·refine Za (yb (decide_eq_false c25) (yi_eql rfl rfl rfl)) ?_
        refine Zn (zk5 0 3 5 6 7 rfl rfl rfl rfl rfl (zk2 4 42 rfl rfl fn)) ?_
        refine cg_cf rfl ?_
        refine cg_skip ?_
        refine eg_block_norm ?_
        refine nx (zk5 0 3 5 6 7 rfl rfl rfl rfl rfl (zk1 4 rfl fn)) ?_
        refine cg_region ?_
        refine ZM ?_
        refine Za (yv (congrArg nv (show ((t : Nat) : Int) + 1 = ((t + 1 : Nat) : Int) by omega)) (yi_add rfl rfl rfl (by omega) (by omega))) ?_
        refine ZA ?_
        refine lg_nil ?_
        have u := Un u hw22
        exact fun a ha => (show t < (Ls.length + 1) ∧ _ from ⟨(by omega), false, bi, bl, ha.keep (fk rfl (fk rfl (fk rfl (fk rfl (fk rfl (fk rfl fn)))))), h, u, (by omega), cW, (by omega), ⟨(fun q => by cases q), fun q => absurd (q t (by omega)) c14⟩, (fi.trans ⟨fun ⟨j, hj, q⟩ => ⟨j, by omega, q⟩, fun ⟨j, hj, q⟩ => ⟨j, (if z : j < t then z else absurd ((show j = t by omega) ▸ q) c25), q⟩⟩), (fl.trans ⟨fun ⟨j, hj, q⟩ => ⟨j, by omega, q⟩, fun ⟨j, hj, q⟩ => ⟨j, (if z : j < t then z else absurd ((show j = t by omega) ▸ q.1) c25), q⟩⟩)⟩)
    ·refine Za (yb (decide_eq_false c7) (yi_lss rfl rfl rfl)) ?_
     refine Zn (zk5 0 3 4 5 6 rfl rfl rfl rfl rfl (zk2 7 28 rfl rfl fn)) ?_
     refine cg_cf rfl ?_
     refine cg_exit ?_
     refine eg_seq_exit ?_
     refine eg_seq_exit ?_
     refine eg_block_exit ?_
     refine nx (zk5 0 3 4 5 6 rfl rfl rfl rfl rfl fn) ?_
     refine cg_seq ?_
     obtain rfl : t = Ls.length := by omega
     refine cg_region ?_
     refine ZM ?_
     by_cases c29 : verL (trAs Ls)
     ·refine Zc (verify_any (h.more (B' := v.heap.size) (by omega)) (Nat.le_refl _) (Tt.up u rg)) rfl rfl ?_
      rintro u30 w30 ⟨e30, hw30⟩
      have zw30 := hw30.size
      obtain rfl : u30 = .bool true := e30.trans (congrArg Value.bool (decide_eq_true c29))
      refine ZA ?_
      refine Zn (zk5 3 4 5 6 9 rfl rfl rfl rfl rfl fn) ?_
      refine Zr ?_
      refine ZM ?_
      refine ZM ?_
      refine Zt 66 (y_move rfl rfl) ?_
      cases ba
      ·exact absurd (fa.2 fun j hj => by have z := c29; rw [hta] at z ⊢; exact z j hj) (by decide)
      ·refine Zt 66 (y_move rfl rfl) ?_
       refine Zt 66 (yb (b := (true == true)) (show (true == true) = true from rfl) (y_beq (a := true) (b := true) hubo rfl rfl rfl)) ?_
       refine Za (y_pick true rfl rfl rfl) ?_
       refine ZM ?_
       cases bi
       ·refine Zt 71 (y_move rfl rfl) ?_
        refine Zt 71 (y_move rfl rfl) ?_
        refine Zt 73 (y_move rfl rfl) ?_
        refine Zt 71 (y_pick false rfl rfl rfl) ?_
        refine Za (y_pick true rfl rfl rfl) ?_
        refine ZM ?_
        cases bl
        ·refine Zt 77 (y_move rfl rfl) ?_
         refine Zt 77 (y_bnot rfl rfl) ?_
         refine Zt 77 (y_move rfl rfl) ?_
         refine Zf 80 ?_
         refine Zf 80 ?_
         refine Zt 77 (y_pick true rfl rfl rfl) ?_
         refine Za (y_pick true rfl rfl rfl) ?_
         refine ZA ?_
         refine Zn (zk1 2 rfl fn) ?_
         refine cg_ret ?_
         have u := Un u hw30
         exact eg_ret_tmp rfl rfl ⟨_, rfl, rfl, u⟩
        ·obtain ⟨j, hj, hj2, hjz⟩ := fl.1 rfl
         exact absurd hjz (by have z := c29; rw [hta] at z ⊢; exact fun y => lone_no (z j hj) hj2 y)
       ·refine Zt 71 (y_move rfl rfl) ?_
        refine Zt 71 (y_move rfl rfl) ?_
        refine Zf 73 ?_
        refine Zt 71 (y_pick true rfl rfl rfl) ?_
        refine Za (y_pick true rfl rfl rfl) ?_
        refine ZM ?_
        cases bl
        ·refine Zt 77 (y_move rfl rfl) ?_
         refine Zt 77 (y_bnot rfl rfl) ?_
         refine Zt 77 (y_move rfl rfl) ?_
         refine Zf 80 ?_
         refine Zf 80 ?_
         refine Zt 77 (y_pick true rfl rfl rfl) ?_
         refine Za (y_pick true rfl rfl rfl) ?_
         refine ZA ?_
         refine Zn (zk1 2 rfl fn) ?_
         refine cg_ret ?_
         have u := Un u hw30
         exact eg_ret_tmp rfl rfl ⟨_, rfl, rfl, u⟩
        ·obtain ⟨j, hj, hj2, hjz⟩ := fl.1 rfl
         exact absurd hjz (by have z := c29; rw [hta] at z ⊢; exact fun y => lone_no (z j hj) hj2 y)
     ·refine Zc (verify_any (h.more (B' := v.heap.size) (by omega)) (Nat.le_refl _) (Tt.up u rg)) rfl rfl ?_
      rintro u31 w31 ⟨e31, hw31⟩
      have zw31 := hw31.size
      obtain rfl : u31 = .bool false := e31.trans (congrArg Value.bool (decide_eq_false c29))
      refine ZA ?_
      refine Zn (zk5 3 4 5 6 9 rfl rfl rfl rfl rfl fn) ?_
      refine Zr ?_
      refine ZM ?_
      refine ZM ?_
      refine Zt 66 (y_move rfl rfl) ?_
      cases ba
      ·refine Zt 66 (y_move rfl rfl) ?_
       refine Zt 66 (yb (b := (false == false)) (show (false == false) = true from rfl) (y_beq (a := false) (b := false) hubo rfl rfl rfl)) ?_
       refine Za (y_pick true rfl rfl rfl) ?_
       refine ZM ?_
       cases bi
       ·exact absurd (show verL (trAs Ls) from by rw [hta]; exact fun i hi => ⟨isN_of htr (by omega) (by omega), fun k => absurd (fi.2 ⟨i, hi, k⟩) (by decide)⟩) c29
       ·refine Zt 71 (y_move rfl rfl) ?_
        refine Zt 71 (y_move rfl rfl) ?_
        refine Zf 73 ?_
        refine Zt 71 (y_pick true rfl rfl rfl) ?_
        refine Za (y_pick true rfl rfl rfl) ?_
        refine ZM ?_
        cases bl
        ·refine Zt 77 (y_move rfl rfl) ?_
         refine Zt 77 (y_bnot rfl rfl) ?_
         refine Zt 77 (y_move rfl rfl) ?_
         refine Zf 80 ?_
         refine Zf 80 ?_
         refine Zt 77 (y_pick true rfl rfl rfl) ?_
         refine Za (y_pick true rfl rfl rfl) ?_
         refine ZA ?_
         refine Zn (zk1 2 rfl fn) ?_
         refine cg_ret ?_
         have u := Un u hw31
         exact eg_ret_tmp rfl rfl ⟨_, rfl, rfl, u⟩
        ·refine Zt 77 (y_move rfl rfl) ?_
         refine Zt 77 (y_bnot rfl rfl) ?_
         refine Zt 77 (y_move rfl rfl) ?_
         refine Zt 80 (y_move rfl rfl) ?_
         refine Zt 80 (y_bnot rfl rfl) ?_
         refine Zt 77 (y_pick false rfl rfl rfl) ?_
         refine Za (y_pick true rfl rfl rfl) ?_
         refine ZA ?_
         refine Zn (zk1 2 rfl fn) ?_
         refine cg_ret ?_
         have u := Un u hw31
         exact eg_ret_tmp rfl rfl ⟨_, rfl, rfl, u⟩
      ·exact absurd (show verL (trAs Ls) from by have z := fa.1 rfl; rw [hta] at z ⊢; exact fun i hi => z i hi) c29
   ·refine Zct 19 (sane_any (h.more (B' := w3.heap.size) (by omega)) (Nat.le_refl _)) rfl rfl ?_
    rintro u32 w32 ⟨e32, hw32⟩
    have zw32 := hw32.size
    obtain rfl : u32 = .bool false := e32.trans (congrArg Value.bool (decide_eq_false c5))
    refine Zt 19 (y_bnot rfl rfl) ?_
    refine Za (y_pick false rfl rfl rfl) ?_
    refine Zn (zk3 0 2 3 rfl rfl rfl (zk1 23 rfl fn)) ?_
    refine cg_ct rfl ?_
    refine Zr ?_
    refine ZM ?_
    refine ZA ?_
    refine Zn (zk3 0 3 2 rfl rfl rfl fn) ?_
    refine cg_ret ?_
    refine eg_seq_ret ?_
    have u := Un u hw1
    have u := Un u hw3
    have u := Un u hw32
    exact eg_ret_tmp rfl rfl ⟨_, rfl, rfl, u⟩
 ·refine Zc (fewR_any (h.more (B' := w1.heap.size) (by omega)) (Nat.le_refl _)) rfl rfl ?_
  rintro u33 w33 ⟨e33, hw33⟩
  have zw33 := hw33.size
  obtain rfl : u33 = .bool false := e33.trans (congrArg Value.bool (decide_eq_false c2))
  refine Za (y_bnot rfl rfl) ?_
  refine ZM ?_
  refine Zf 14 ?_
  refine Zf 14 ?_
  refine Zf 14 ?_
  refine Za (y_pick true rfl rfl rfl) ?_
  refine ZM ?_
  refine Zf 19 ?_
  refine Zf 19 ?_
  refine Zf 19 ?_
  refine Za (y_pick true rfl rfl rfl) ?_
  refine Zn (zk3 0 2 3 rfl rfl rfl (zk1 23 rfl fn)) ?_
  refine cg_ct rfl ?_
  refine Zr ?_
  refine ZM ?_
  refine ZA ?_
  refine Zn (zk3 0 3 2 rfl rfl rfl fn) ?_
  refine cg_ret ?_
  refine eg_seq_ret ?_
  have u := Un u hw1
  have u := Un u hw33
  exact eg_ret_tmp rfl rfl ⟨_, rfl, rfl, u⟩
end Go.Proofs.YtfbnallapgokeaaGreatDoor
