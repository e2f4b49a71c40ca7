/-
  What is planned is valid.
-/
import Derived.Test.YtfbnallapgokeaaGreatDoorChAwake
import Derived.Test.YtfbnallapgokeaaGreatDoorTrRef
namespace Go.Proofs.YtfbnallapgokeaaGreatDoor
open Go.ChangeShapes Go.WideShapes Go.ChangeAt Go.RowKit
set_option linter.unusedVariables false

set_option maxRecDepth 20000
theorem planned_set {Ls : List Nd} {i : Int} {Ks : List (List Int)} (hE : planE (trAs Ls) i Ks = 0) : setE (planP (trAs Ls) i Ks) (2 * i) (saidX 5 (planH (trAs Ls) i Ks)) = 0 ∧ setL (planP (trAs Ls) i Ks) (2 * i) (saidX 5 (planH (trAs Ls) i Ks)) = (planP (trAs Ls) i Ks).set (2 * i).toNat (saidX 5 (planH (trAs Ls) i Ks)) ∧
  (setL (planP (trAs Ls) i Ks) (2 * i) (saidX 5 (planH (trAs Ls) i Ks))).length = (trAs Ls).length ∧ ndCheck (saidX 5 (planH (trAs Ls) i Ks)) = 0 := by
 have ha := trAs_is Ls
 obtain ⟨hN, h0⟩ := plan_node ha hE
 have hl := planH_le (trAs Ls) i Ks
 have ho : ndCheck (saidX 5 (planH (trAs Ls) i Ks)) = 0 := said_ok (by omega)
 have hpa := trAs_ok (planP_is ha i Ks)
 have e : setE (planP (trAs Ls) i Ks) (2 * i) (saidX 5 (planH (trAs Ls) i Ks)) = 0 := setE_ok (by rw [hpa, planP_len hE]; exact hN) ho ⟨.inr (show (1 : Int) ≠ 2 by decide), .inl (by have := hN.le; omega)⟩
 have e2 := setL_ok e
 rw [hpa] at e2
 exact ⟨e, e2, by rw [e2, List.length_set, planP_len hE], ho⟩
set_option maxHeartbeats 4000000 in
theorem chainPlanned_any {W : World} {s : SlV} {Ls : List Nd} (h : RwNd W W.heap.size s Ls) (i : Int) {r : SlV} {Ks : List (List Int)} (hk : RwOc W W.heap.size r Ks) (rg : Tt W) : Calls Tryz.prog 4 #[s.v, nv i, r.v] W fun e W' => ∃ v, e = .returned v ∧ v = .bool true ∧ Below W.heap.size W W' := by
 refine calls_cg (n := 195) Tryz.func4 rfl Tryz.ntmps4 (by simp) ?_
 show CG _ _ _ [(0, s.v), (1, nv i), (2, r.v)] _ _
 have u := Below.refl W.heap.size W
 have q1 := h.len
 have q2 := h.cap
 have q3 := hk.len
 have q4 := hk.cap
 have qwl : ((forkL (trAs Ls) i).map Prod.fst).length = (forkL (trAs Ls) i).length := List.length_map ..
 refine Zr ?_
 refine ZA ?_
 refine Zn (zk3 0 1 2 rfl rfl rfl (zk1 6 rfl fn)) ?_
 refine Zr ?_
 refine Zc (awakeC_any _ (Tt.up u rg)) rfl rfl ?_
 rintro _ w1 ⟨rfl, hw1⟩
 have zw1 := hw1.size
 refine ZA ?_
 refine Zn (zk5 0 1 2 6 7 rfl rfl rfl rfl rfl fn) ?_
 refine cg_seq ?_
 refine Zr ?_
 refine ZM ?_
 have h := h.below (hw1.mono (by omega))
 by_cases c2 : trFew Ls
 ·refine Zc (fewR_any (h.more (B' := w1.heap.size) (by omega)) (Nat.le_refl _)) rfl rfl ?_
  rintro u3 w3 ⟨e3, hw3⟩
  have zw3 := hw3.size
  obtain rfl : u3 = .bool true := e3.trans (congrArg Value.bool (decide_eq_true c2))
  refine Za (y_bnot rfl rfl) ?_
  refine ZM ?_
  refine Zt 20 (y_move rfl rfl) ?_
  have h := h.below (hw3.mono (by omega))
  refine Zt 20 (y_lenM (el := 43) h.len (by kernel_rfl) rfl rfl) ?_
  by_cases c4 : 20 < (Ls.length : Int)
  ·refine Zt 20 (yb (decide_eq_true c4) (yi_gtr rfl rfl rfl)) ?_
   refine Za (y_pick false rfl rfl rfl) ?_
   refine ZM ?_
   refine Zf 25 ?_
   refine Zf 25 ?_
   refine Zf 25 ?_
   refine Za (y_pick true rfl rfl rfl) ?_
   refine ZM ?_
   refine Zf 30 ?_
   refine Zf 30 ?_
   refine Zf 30 ?_
   refine Za (y_pick true rfl rfl rfl) ?_
   refine Zn (zk5 0 1 2 6 7 rfl rfl rfl rfl rfl (zk1 34 rfl fn)) ?_
   refine cg_ct rfl ?_
   refine Zr ?_
   refine ZM ?_
   refine ZA ?_
   refine Zn (zk5 0 1 2 7 6 rfl rfl rfl rfl rfl fn) ?_
   refine cg_ret ?_
   refine eg_seq_ret ?_
   have u := Un u hw1
   have u := Un u hw3
   exact eg_ret_tmp rfl rfl ⟨_, rfl, rfl, u⟩
  ·refine Zt 20 (yb (decide_eq_false c4) (yi_gtr rfl rfl rfl)) ?_
   refine Za (y_pick false rfl rfl rfl) ?_
   refine ZM ?_
   refine Zt 25 (y_move rfl rfl) ?_
   by_cases c5 : trIs Ls
   ·have htr := c5
    have htl := trIs_le htr
    have hta := trAs_ok htr
    refine Zct 25 (sane_any (h.more (B' := w3.heap.size) (by omega)) (Nat.le_refl _)) rfl rfl ?_
    rintro u6 w6 ⟨e6, hw6⟩
    have zw6 := hw6.size
    obtain rfl : u6 = .bool true := e6.trans (congrArg Value.bool (decide_eq_true c5))
    refine Zt 25 (y_bnot rfl rfl) ?_
    refine Za (y_pick false rfl rfl rfl) ?_
    refine ZM ?_
    refine Zt 30 (y_move rfl rfl) ?_
    have hk := hk.below (hw1.mono (by omega))
    have hk := hk.below (hw3.mono (by omega))
    have hk := hk.below (hw6.mono (by omega))
    by_cases c7 : ocFew Ks
    ·refine Zct 30 (fewO_any (hk.more (B' := w6.heap.size) (by omega)) (Nat.le_refl _)) rfl rfl ?_
     rintro u8 w8 ⟨e8, hw8⟩
     have zw8 := hw8.size
     obtain rfl : u8 = .bool true := e8.trans (congrArg Value.bool (decide_eq_true c7))
     refine Zt 30 (y_bnot rfl rfl) ?_
     refine Za (y_pick false rfl rfl rfl) ?_
     refine Zn (zk5 0 1 2 6 7 rfl rfl rfl rfl rfl (zk1 34 rfl fn)) ?_
     refine cg_cf rfl ?_
     refine cg_skip ?_
     refine nx (zk5 0 1 2 6 7 rfl rfl rfl rfl rfl fn) ?_
     refine Zr ?_
     refine ZM ?_
     refine ZM ?_
     refine ZM ?_
     have hk := hk.below (hw8.mono (by omega))
     have h := h.below (hw6.mono (by omega))
     have h := h.below (hw8.mono (by omega))
     have u := Un u hw1
     have u := Un u hw3
     have u := Un u hw6
     have u := Un u hw8
     refine Zc (plan_any (h.more (B' := w8.heap.size) (by omega)) i (hk.more (B' := w8.heap.size) (by omega)) (Nat.le_refl _) (Tt.up u rg)) rfl rfl ?_
     rintro _ w9 ⟨s9, r9, rfl, m9, n9, hw9⟩
     have zw9 := hw9.size
     have pl9 := planH_le (trAs Ls) i Ks
     refine ZM ?_
     refine Za (y_extract rfl rfl rfl) ?_
     refine Za (y_extract rfl rfl rfl) ?_
     refine Za (y_extract rfl rfl rfl) ?_
     refine ZA ?_
     refine ZA ?_
     refine ZA ?_
     refine Zn (zk5 0 1 2 6 7 rfl rfl rfl rfl rfl (zk3 8 9 10 rfl rfl rfl fn)) ?_
     refine cg_seq ?_
     refine Zr ?_
     refine ZM ?_
     by_cases c10 : (planE (trAs Ls) i Ks) = 0
     ·have hE := c10
      obtain ⟨hN, hi0⟩ := plan_node (trAs_is Ls) hE
      have leN := hN.le
      have tl := trAs_le Ls
      have hkl := (planE_ok hE).2.1
      obtain ⟨f1, f2, f3, f4⟩ := planned_set (Ls := Ls) (i := i) (Ks := Ks) hE
      have hsl : (setL (planP (trAs Ls) i Ks) (2 * i) (saidX 5 (planH (trAs Ls) i Ks))).length = Ls.length := by rw [f3, hta]
      have hsa : trAs (setL (planP (trAs Ls) i Ks) (2 * i) (saidX 5 (planH (trAs Ls) i Ks))) = (setL (planP (trAs Ls) i Ks) (2 * i) (saidX 5 (planH (trAs Ls) i Ks))) := trAs_ok (trIs_setL _ _ _)
      have fl6 := fork_len (trAs Ls) i
      refine Za (yb (nd_f c10) (yi_neq rfl rfl rfl)) ?_
      refine Zn (zk5 0 1 2 6 7 rfl rfl rfl rfl rfl (zk3 8 9 45 rfl rfl rfl fn)) ?_
      refine cg_cf rfl ?_
      refine cg_skip ?_
      refine nx (zk5 0 1 2 6 7 rfl rfl rfl rfl rfl (zk2 8 9 rfl rfl fn)) ?_
      refine Zr ?_
      refine ZM ?_
      refine ZM ?_
      refine Za (yi_mul rfl rfl rfl (by omega) (by omega)) ?_
      refine ZM ?_
      refine Zc (said5_any _ (n9.more (B' := w9.heap.size) (by omega)) (Nat.le_refl _)) rfl rfl ?_
      rintro _ w11 ⟨l11, rfl, m11, hw11⟩
      have zw11 := hw11.size
      have m9 := m9.below (hw11.mono (by omega))
      refine Zc (set_any (m9.more (B' := w11.heap.size) (by omega)) (2 * i) (m11.more (B' := w11.heap.size) (by omega)) (Nat.le_refl _)) rfl rfl ?_
      rintro _ w12 ⟨s12, rfl, m12, hw12⟩
      have zw12 := hw12.size
      refine ZM ?_
      refine Za (y_extract rfl rfl rfl) ?_
      refine Za (y_extract rfl rfl rfl) ?_
      refine ZA ?_
      refine ZA ?_
      refine Zn (zk5 0 1 2 6 7 rfl rfl rfl rfl rfl (zk2 11 12 rfl rfl fn)) ?_
      refine cg_seq ?_
      refine Zr ?_
      refine ZM ?_
      refine Za (yb (nd_f f1) (yi_neq rfl rfl rfl)) ?_
      refine ZM ?_
      refine Zt 68 (y_move rfl rfl) ?_
      refine Zt 68 (y_lenM (el := 43) m12.len (by kernel_rfl) rfl rfl) ?_
      refine Zt 68 (y_move rfl rfl) ?_
      have h := h.below (hw9.mono (by omega))
      have h := h.below (hw11.mono (by omega))
      have h := h.below (hw12.mono (by omega))
      refine Zt 68 (y_lenM (el := 43) h.len (by kernel_rfl) rfl rfl) ?_
      refine Zt 68 (yb (nd_f (show ((setL (planP (trAs Ls) i Ks) (2 * i) (saidX 5 (planH (trAs Ls) i Ks))).length : Int) = (Ls.length : Int) from (by rw [hsl]))) (yi_neq rfl rfl rfl)) ?_
      refine Za (y_pick false rfl rfl rfl) ?_
      refine Zn (zk5 0 1 2 6 7 rfl rfl rfl rfl rfl (zk2 11 74 rfl rfl fn)) ?_
      refine cg_cf rfl ?_
      refine cg_skip ?_
      refine nx (zk5 0 1 2 6 7 rfl rfl rfl rfl rfl (zk1 11 rfl fn)) ?_
      refine Zr ?_
      refine ZM ?_
      refine ZM ?_
      have u := Un u hw9
      have u := Un u hw11
      have u := Un u hw12
      refine Zc (filter_any (h.more (B' := w12.heap.size) (by omega)) i (Nat.le_refl _) (Tt.up u rg).b) rfl rfl ?_
      rintro _ w13 ⟨s13, rfl, m13, hw13⟩
      have zw13 := hw13.size
      refine ZA ?_
      refine Zn (zk5 0 1 2 6 7 rfl rfl rfl rfl rfl (zk2 11 13 rfl rfl fn)) ?_
      refine cg_seq ?_
      refine Zr ?_
      refine ZA ?_
      refine Zn (zk5 0 1 2 6 7 rfl rfl rfl rfl rfl (zk3 11 13 14 rfl rfl rfl fn)) ?_
      refine cg_block ?_
      obtain ⟨C, hC⟩ : ∃ q, q = w13.heap.size := ⟨_, rfl⟩
      have m12 := m12.below (hw13.mono (by omega))
      have h := h.below (hw13.mono (by omega))
      have u := Un u hw13
      have hk := hk.below (hw9.mono (by omega))
      have hk := hk.below (hw11.mono (by omega))
      have hk := hk.below (hw12.mono (by omega))
      have hk := hk.below (hw13.mono (by omega))
      refine cg_loopE (fun t a v => Holds 195 [(0, s.v), (1, nv i), (2, r.v), (7, .bool true), (11, s12.v), (13, s13.v), (14, nv ((t : Nat) : Int))] a ∧ RwNd v W.heap.size s Ls ∧ Below W.heap.size W v ∧ C ≤ v.heap.size ∧ W.heap.size ≤ C ∧ RwNd v C s12 (setL (planP (trAs Ls) i Ks) (2 * i) (saidX 5 (planH (trAs Ls) i Ks))) ∧ SlN v C s13 ((forkL (trAs Ls) i).map Prod.fst) ∧ RwOc v W.heap.size r Ks ∧ t ≤ (forkL (trAs Ls) i).length) ((forkL (trAs Ls) i).length + 1) (fun a ha => ⟨ha.keep (fk rfl (fk rfl (fk rfl (fk rfl (fk rfl (fk rfl (fk rfl fn))))))), h, u, (Nat.le_of_eq hC), (by omega), (m12.more (by omega)), (m13.more (by omega)), hk, (Nat.zero_le _)⟩) ?_
      rintro t a v ht ⟨ha, h, u, cC, cW, hs, hw, hk, tle⟩
      refine cg_at ha ?_
      clear ha a
      have zv := u.size
      have q1 := h.len
      have q2 := h.cap
      have q3 := hk.len
      have q4 := hk.cap
      have q5 := hs.len
      have q6 := hs.cap
      have q7 := hw.len
      refine cg_seq ?_
      refine Zr ?_
      refine ZM ?_
      refine ZM ?_
      refine Za (y_lenM (el := 3) hw.len (by kernel_rfl) rfl rfl) ?_
      by_cases c14 : ((t : Nat) : Int) < (((forkL (trAs Ls) i).map Prod.fst).length : Int)
      ·have htn : t < (forkL (trAs Ls) i).length := by omega
       obtain ⟨hv1, hv2⟩ := plan_link (trAs_is Ls) hE f2 rfl rfl rfl htn
       rw [plan_at_k (trAs_is Ls) hE htn] at hv2
       have hxn := (fork_at (trAs_is Ls) htn).1
       have lex := hxn.le
       refine Za (yb (decide_eq_true c14) (yi_lss rfl rfl rfl)) ?_
       refine Zn (zk5 0 1 2 7 11 rfl rfl rfl rfl rfl (zk3 13 14 81 rfl rfl rfl fn)) ?_
       refine cg_ct rfl ?_
       refine cg_skip ?_
       refine nx (zk5 0 1 2 7 11 rfl rfl rfl rfl rfl (zk2 13 14 rfl rfl fn)) ?_
       refine cg_seq ?_
       refine cg_block ?_
       refine cg_seq ?_
       obtain ⟨ebz15, eoz15, elz15, eLz15, eAz15, eBz15, egz15, ehz15, ecz15⟩ := hs.at ((((forkL (trAs Ls) i).map Prod.fst).getD t 0).toNat) (by have := hs.len; omega)
       have enz15 : eLz15 = atN (setL (planP (trAs Ls) i Ks) (2 * i) (saidX 5 (planH (trAs Ls) i Ks))) ((((forkL (trAs Ls) i).map Prod.fst).getD t 0).toNat) := (atN_some egz15).symm
       subst enz15
       refine cg_held (by kernel_rfl) fun W16 eW16 => ?_
       have dW16 := below_drew _ _ eW16
       have zW16 := size_drew _ _ eW16
       clear eW16
       refine Zh 0 (fun q hq => y_move rfl rfl) ?_
       refine Zh 1 (fun q hq => y_move rfl rfl) ?_
       refine Zh 2 (fun q hq => y_move rfl rfl) ?_
       have hw := hw.below (dW16.mono (by omega))
       refine Zh 3 (fun q hq => y_ixT (i := t) (iI := ((t : Nat) : Int)) (hw.below (hq.mono (by omega))) (by omega) (by first | omega | (simp only [List.length_append, List.length_cons, List.length_nil]; omega)) rfl rfl rfl) ?_
       refine Zh 4 (fun q hq => y_ldT (i := t) (hw.below (hq.mono (by omega))) (by first | omega | (simp only [List.length_append, List.length_cons, List.length_nil]; omega)) rfl rfl) ?_
       have hs := hs.below (dW16.mono (by omega))
       have u := Un u dW16
       refine Zo 5 ?_
       refine Zc (valid_any (hs.more (B' := W16.heap.size) (by omega)) (((forkL (trAs Ls) i).map Prod.fst).getD t 0) (Nat.le_refl _) (Tt.up u rg)) rfl rfl ?_
       rintro u17 w17 ⟨e17, hw17⟩
       have zw17 := hw17.size
       obtain rfl : u17 = .bool true := e17.trans (congrArg Value.bool (decide_eq_true (show validL (trAs (setL (planP (trAs Ls) i Ks) (2 * i) (saidX 5 (planH (trAs Ls) i Ks)))) (((forkL (trAs Ls) i).map Prod.fst).getD t 0) from (by rw [hsa]; exact hv1))))
       refine hg_next hw17 ?_
       refine hg_up hw17 ?_
       refine Zh 6 (fun q hq => y_bnot rfl rfl) ?_
       refine Zh 7 (fun q hq => y_move rfl rfl) ?_
       refine Zht 8 91 (fun q hq => y_move rfl rfl) ?_
       refine Zht 9 91 (fun q hq => y_move rfl rfl) ?_
       refine Zht 10 91 (fun q hq => y_move rfl rfl) ?_
       have hw := hw.below (hw17.mono (by omega))
       refine Zht 11 91 (fun q hq => y_ixT (i := t) (iI := ((t : Nat) : Int)) (hw.below (hq.mono (by omega))) (by omega) (by first | omega | (simp only [List.length_append, List.length_cons, List.length_nil]; omega)) rfl rfl rfl) ?_
       refine Zht 12 91 (fun q hq => y_ldT (i := t) (hw.below (hq.mono (by omega))) (by first | omega | (simp only [List.length_append, List.length_cons, List.length_nil]; omega)) rfl rfl) ?_
       have hs := hs.below (hw17.mono (by omega))
       obtain ⟨eb18, eo18, el18, eL18, eA18, eB18, eg18, eh18, ec18⟩ := hs.at ((((forkL (trAs Ls) i).map Prod.fst).getD t 0).toNat) (by have := hs.len; omega)
       obtain rfl : (atN (setL (planP (trAs Ls) i Ks) (2 * i) (saidX 5 (planH (trAs Ls) i Ks))) ((((forkL (trAs Ls) i).map Prod.fst).getD t 0).toNat)) = eL18 := Option.some.inj (egz15.symm.trans eg18)
       refine Zht 13 91 (fun q hq => y_ixR (s := s12) (el := 43) (k := 8) (i := (((forkL (trAs Ls) i).map Prod.fst).getD t 0).toNat) (iI := (((forkL (trAs Ls) i).map Prod.fst).getD t 0)) eA18 (by kernel_rfl) (by kernel_rfl) (by omega) (by have := hs.len; omega) rfl rfl rfl) ?_
       refine Zht 14 91 (fun q hq => y_fld (off := 0) (by kernel_rfl) rfl rfl) ?_
       refine Zht 15 91 (fun q hq => y_celld ((hq.cell (p := ⟨eb18, _, none⟩) (show eb18 < _ by omega)).trans (ec18 0 _ rfl)) (by kernel_rfl) rfl rfl) ?_
       refine Zht 16 91 (fun q hq => yb (nd_f (show (atN (setL (planP (trAs Ls) i Ks) (2 * i) (saidX 5 (planH (trAs Ls) i Ks))) ((((forkL (trAs Ls) i).map Prod.fst).getD t 0).toNat)).kind = 2 from (by rw [hv2]))) (yi_neq rfl rfl rfl)) ?_
       refine Zh 17 (fun q hq => y_pick false rfl rfl rfl) ?_
       refine Zh 18 (fun q hq => y_move rfl rfl) ?_
       refine Zht 19 102 (fun q hq => y_move rfl rfl) ?_
       refine Zht 20 102 (fun q hq => y_move rfl rfl) ?_
       refine Zht 21 102 (fun q hq => y_move rfl rfl) ?_
       refine Zht 22 102 (fun q hq => y_ixT (i := t) (iI := ((t : Nat) : Int)) (hw.below (hq.mono (by omega))) (by omega) (by first | omega | (simp only [List.length_append, List.length_cons, List.length_nil]; omega)) rfl rfl rfl) ?_
       refine Zht 23 102 (fun q hq => y_ldT (i := t) (hw.below (hq.mono (by omega))) (by first | omega | (simp only [List.length_append, List.length_cons, List.length_nil]; omega)) rfl rfl) ?_
       obtain ⟨eb19, eo19, el19, eL19, eA19, eB19, eg19, eh19, ec19⟩ := hs.at ((((forkL (trAs Ls) i).map Prod.fst).getD t 0).toNat) (by have := hs.len; omega)
       obtain rfl : (atN (setL (planP (trAs Ls) i Ks) (2 * i) (saidX 5 (planH (trAs Ls) i Ks))) ((((forkL (trAs Ls) i).map Prod.fst).getD t 0).toNat)) = eL19 := Option.some.inj (egz15.symm.trans eg19)
       refine Zht 24 102 (fun q hq => y_ixR (s := s12) (el := 43) (k := 8) (i := (((forkL (trAs Ls) i).map Prod.fst).getD t 0).toNat) (iI := (((forkL (trAs Ls) i).map Prod.fst).getD t 0)) eA19 (by kernel_rfl) (by kernel_rfl) (by omega) (by have := hs.len; omega) rfl rfl rfl) ?_
       refine Zht 25 102 (fun q hq => y_fld (off := 5) (by kernel_rfl) rfl rfl) ?_
       refine Zht 26 102 (fun q hq => y_fld (off := 0) (by kernel_rfl) rfl rfl) ?_
       refine Zht 27 102 (fun q hq => y_celld ((hq.cell (p := ⟨eb19, _, none⟩) (show eb19 < _ by omega)).trans (ec19 5 _ rfl)) (by kernel_rfl) rfl rfl) ?_
       have by20 : Bytes ((atN (setL (planP (trAs Ls) i Ks) (2 * i) (saidX 5 (planH (trAs Ls) i Ks))) ((((forkL (trAs Ls) i).map Prod.fst).getD t 0).toNat)).inner.enc) := eh19.inner.enc.bytes
       refine Zht 28 102 (fun q hq => y_strS (eh19.below (hq.mono (by omega))).inner.enc rfl rfl) ?_
       refine Zht 29 102 (fun q hq => y_move rfl rfl) ?_
       refine Zht 30 102 (fun q hq => y_move rfl rfl) ?_
       have hk := hk.below (dW16.mono (by omega))
       have hk := hk.below (hw17.mono (by omega))
       obtain ⟨eb21, eo21, er21, eA21, eB21, eh21, ec21⟩ := hk.at (t) (by have := hk.len; first | omega | (simp only [allH_len, allN_len, List.length_append, List.length_cons, List.length_nil] at this; omega))
       refine Zht 31 102 (fun q hq => y_ixR (s := r) (el := 27) (k := 1) (i := t) (iI := ((t : Nat) : Int)) eA21 (by kernel_rfl) (by kernel_rfl) (by omega) (by have := hk.len; first | omega | (simp only [allH_len, allN_len, List.length_append, List.length_cons, List.length_nil] at this; omega)) rfl rfl rfl) ?_
       refine Zht 32 102 (fun q hq => y_celld ((hq.cell (p := ⟨eb21, _, none⟩) (show eb21 < _ by omega)).trans (ec21)) (by kernel_rfl) rfl rfl) ?_
       have by22 : Bytes (Ks.getD t []) := eh21.bytes
       refine Zht 33 102 (fun q hq => y_strS (eh21.below (hq.mono (by omega))) rfl rfl) ?_
       refine Zht 34 102 (fun q hq => yb (nd_f (show (atN (setL (planP (trAs Ls) i Ks) (2 * i) (saidX 5 (planH (trAs Ls) i Ks))) ((((forkL (trAs Ls) i).map Prod.fst).getD t 0).toNat)).inner.enc = (Ks.getD t []) from (by rw [hv2]))) (y_sneS (xs := (atN (setL (planP (trAs Ls) i Ks) (2 * i) (saidX 5 (planH (trAs Ls) i Ks))) ((((forkL (trAs Ls) i).map Prod.fst).getD t 0).toNat)).inner.enc) (ys := (Ks.getD t [])) by20 by22 rfl rfl rfl)) ?_
       refine Zh 35 (fun q hq => y_pick false rfl rfl rfl) ?_
       refine Zh 36 (fun q hq => y_move rfl rfl) ?_
       refine Zht 37 120 (fun q hq => y_move rfl rfl) ?_
       refine Zht 38 120 (fun q hq => y_move rfl rfl) ?_
       refine Zht 39 120 (fun q hq => y_move rfl rfl) ?_
       refine Zht 40 120 (fun q hq => y_ixT (i := t) (iI := ((t : Nat) : Int)) (hw.below (hq.mono (by omega))) (by omega) (by first | omega | (simp only [List.length_append, List.length_cons, List.length_nil]; omega)) rfl rfl rfl) ?_
       refine Zht 41 120 (fun q hq => y_ldT (i := t) (hw.below (hq.mono (by omega))) (by first | omega | (simp only [List.length_append, List.length_cons, List.length_nil]; omega)) rfl rfl) ?_
       obtain ⟨eb23, eo23, el23, eL23, eA23, eB23, eg23, eh23, ec23⟩ := hs.at ((((forkL (trAs Ls) i).map Prod.fst).getD t 0).toNat) (by have := hs.len; omega)
       obtain rfl : (atN (setL (planP (trAs Ls) i Ks) (2 * i) (saidX 5 (planH (trAs Ls) i Ks))) ((((forkL (trAs Ls) i).map Prod.fst).getD t 0).toNat)) = eL23 := Option.some.inj (egz15.symm.trans eg23)
       refine Zht 42 120 (fun q hq => y_ixR (s := s12) (el := 43) (k := 8) (i := (((forkL (trAs Ls) i).map Prod.fst).getD t 0).toNat) (iI := (((forkL (trAs Ls) i).map Prod.fst).getD t 0)) eA23 (by kernel_rfl) (by kernel_rfl) (by omega) (by have := hs.len; omega) rfl rfl rfl) ?_
       refine Zht 43 120 (fun q hq => y_fld (off := 5) (by kernel_rfl) rfl rfl) ?_
       refine Zht 44 120 (fun q hq => y_fld (off := 2) (by kernel_rfl) rfl rfl) ?_
       refine Zht 45 120 (fun q hq => y_celld ((hq.cell (p := ⟨eb23, _, none⟩) (show eb23 < _ by omega)).trans (ec23 7 _ rfl)) (by kernel_rfl) rfl rfl) ?_
       refine Zht 46 120 (fun q hq => y_lenM (el := 3) eh23.inner.unm.len (by kernel_rfl) rfl rfl) ?_
       refine Zht 47 120 (fun q hq => yb (decide_eq_false (show ¬ (0 < (((atN (setL (planP (trAs Ls) i Ks) (2 * i) (saidX 5 (planH (trAs Ls) i Ks))) ((((forkL (trAs Ls) i).map Prod.fst).getD t 0).toNat)).inner.unm).length : Int)) from (by rw [hv2]; exact fun q => absurd (show (0 : Int) < 0 from q) (by decide)))) (yi_gtr rfl rfl rfl)) ?_
       refine Zh 48 (fun q hq => y_pick false rfl rfl rfl) ?_
       refine hg_done (by kernel_rfl) ?_
       refine nx (zk5 0 1 2 7 11 rfl rfl rfl rfl rfl (zk3 13 14 132 rfl rfl rfl fn)) ?_
       refine cg_cf rfl ?_
       refine cg_skip ?_
       refine eg_block_norm ?_
       refine nx (zk5 0 1 2 7 11 rfl rfl rfl rfl rfl (zk2 13 14 rfl rfl fn)) ?_
       refine cg_region ?_
       refine ZM ?_
       refine Za (yv (congrArg nv (show ((t : Nat) : Int) + 1 = ((t + 1 : Nat) : Int) by omega)) (yi_add rfl rfl rfl (by omega) (by omega))) ?_
       refine ZA ?_
       refine lg_nil ?_
       have h := h.below (dW16.mono (by omega))
       have h := h.below (hw17.mono (by omega))
       have u := Un u hw17
       exact fun a ha => (show t < ((forkL (trAs Ls) i).length + 1) ∧ _ from ⟨(by omega), ha.keep (fk rfl (fk rfl (fk rfl (fk rfl (fk rfl (fk rfl (fk rfl fn))))))), h, u, (by omega), cW, hs, hw, hk, (by omega)⟩)
      ·refine Za (yb (decide_eq_false c14) (yi_lss rfl rfl rfl)) ?_
       refine Zn (zk5 0 1 2 7 11 rfl rfl rfl rfl rfl (zk3 13 14 81 rfl rfl rfl fn)) ?_
       refine cg_cf rfl ?_
       refine cg_exit ?_
       refine eg_seq_exit ?_
       refine eg_seq_exit ?_
       refine eg_block_exit ?_
       refine nx (zk5 0 1 7 11 13 rfl rfl rfl rfl rfl fn) ?_
       refine cg_seq ?_
       refine Zr ?_
       refine ZA ?_
       refine Zn (zk5 0 1 7 11 13 rfl rfl rfl rfl rfl (zk1 15 rfl fn)) ?_
       refine cg_block ?_
       refine cg_loopE (fun j a v => Holds 195 [(0, s.v), (1, nv i), (7, .bool true), (11, s12.v), (13, s13.v), (15, nv ((j : Nat) : Int))] a ∧ RwNd v W.heap.size s Ls ∧ Below W.heap.size W v ∧ C ≤ v.heap.size ∧ W.heap.size ≤ C ∧ RwNd v C s12 (setL (planP (trAs Ls) i Ks) (2 * i) (saidX 5 (planH (trAs Ls) i Ks))) ∧ SlN v C s13 ((forkL (trAs Ls) i).map Prod.fst) ∧ j ≤ Ls.length) (Ls.length + 1) (fun a ha => ⟨ha.keep (fk rfl (fk rfl (fk rfl (fk rfl (fk rfl (fk rfl fn)))))), h, u, (by omega), cW, hs, hw, (Nat.zero_le _)⟩) ?_
       rintro j a v ht ⟨ha, h, u, cC, cW, hs, hw, jle⟩
       refine cg_at ha ?_
       clear ha a
       have zv := u.size
       have q1 := h.len
       have q2 := h.cap
       have q5 := hs.len
       have q6 := hs.cap
       have q7 := hw.len
       refine cg_seq ?_
       refine Zr ?_
       refine ZM ?_
       refine ZM ?_
       refine Za (y_lenM (el := 43) h.len (by kernel_rfl) rfl rfl) ?_
       by_cases c24 : ((j : Nat) : Int) < (Ls.length : Int)
       ·have hjn : j < Ls.length := by omega
        have hxj : isN ((j : Nat) : Int) ((trAs Ls).length : Int) := isN_of (trAs_is Ls) (by omega) (by rw [hta]; omega)
        obtain ⟨r1, r2⟩ := plan_rest (trAs_is Ls) hE f2 hxj
        rw [show (trAs Ls).length = Ls.length by rw [hta]] at r1 r2
        refine Za (yb (decide_eq_true c24) (yi_lss rfl rfl rfl)) ?_
        refine Zn (zk5 0 1 7 11 13 rfl rfl rfl rfl rfl (zk2 15 136 rfl rfl fn)) ?_
        refine cg_ct rfl ?_
        refine cg_skip ?_
        refine nx (zk5 0 1 7 11 13 rfl rfl rfl rfl rfl (zk1 15 rfl fn)) ?_
        refine cg_seq ?_
        refine cg_block ?_
        refine cg_seq ?_
        obtain ⟨ebz25, eoz25, elz25, eLz25, eAz25, eBz25, egz25, ehz25, ecz25⟩ := hs.at (j) (by have := hs.len; omega)
        have enz25 : eLz25 = atN (setL (planP (trAs Ls) i Ks) (2 * i) (saidX 5 (planH (trAs Ls) i Ks))) (j) := (atN_some egz25).symm
        subst enz25
        obtain ⟨ebz26, eoz26, elz26, eLz26, eAz26, eBz26, egz26, ehz26, ecz26⟩ := h.at (j) (by have := h.len; omega)
        have enz26 : eLz26 = atN Ls (j) := (atN_some egz26).symm
        subst enz26
        refine cg_held (by kernel_rfl) fun W27 eW27 => ?_
        have dW27 := below_drew _ _ eW27
        have zW27 := size_drew _ _ eW27
        clear eW27
        refine Zh 0 (fun q hq => y_move rfl rfl) ?_
        refine Zh 1 (fun q hq => yi_mul (r := 2) (s := i) rfl rfl rfl (by omega) (by omega)) ?_
        refine Zh 2 (fun q hq => y_move rfl rfl) ?_
        refine Zh 3 (fun q hq => y_move rfl rfl) ?_
        have h := h.below (dW27.mono (by omega))
        refine Zh 4 (fun q hq => y_lenM (el := 43) h.len (by kernel_rfl) rfl rfl) ?_
        have u := Un u dW27
        by_cases c28 : undI (2 * i) ((j : Nat) : Int) (Ls.length : Int)
        ·refine Zo 5 ?_
         refine Zc (under_any (2 * i) ((j : Nat) : Int) (Ls.length : Int) _ (Tt.up u rg).b) rfl rfl ?_
         rintro u29 w29 ⟨e29, hw29⟩
         have zw29 := hw29.size
         obtain rfl : u29 = .bool true := e29.trans (congrArg Value.bool (decide_eq_true c28))
         refine hg_next hw29 ?_
         refine hg_up hw29 ?_
         refine Zh 6 (fun q hq => y_bnot rfl rfl) ?_
         refine Zh 7 (fun q hq => y_move rfl rfl) ?_
         refine hg_skip 8 (by rfl) (want_f (dj := 146) (by rfl) (by kernel_rfl) rfl) rfl (by decide) (by kernel_rfl) (by kernel_rfl) (by kernel_rfl) (fun _ _ _ h => h) (Below.refl _ _) ?_
         refine hg_skip 9 (by rfl) (want_f (dj := 146) (by rfl) (by kernel_rfl) rfl) rfl (by decide) (by kernel_rfl) (by kernel_rfl) (by kernel_rfl) (fun _ _ _ h => h) (Below.refl _ _) ?_
         refine hg_skip 10 (by rfl) (want_f (dj := 146) (by rfl) (by kernel_rfl) rfl) rfl (by decide) (by kernel_rfl) (by kernel_rfl) (by kernel_rfl) (fun _ _ _ h => h) (Below.refl _ _) ?_
         refine hg_skip 11 (by rfl) (want_f (dj := 146) (by rfl) (by kernel_rfl) rfl) rfl (by decide) (by kernel_rfl) (by kernel_rfl) (by kernel_rfl) (fun _ _ _ h => h) (Below.refl _ _) ?_
         refine hg_skip 12 (by rfl) (want_f (dj := 146) (by rfl) (by kernel_rfl) rfl) rfl (by decide) (by kernel_rfl) (by kernel_rfl) (by kernel_rfl) (fun _ _ _ h => h) (Below.refl _ _) ?_
         refine hg_skip 13 (by rfl) (want_f (dj := 146) (by rfl) (by kernel_rfl) rfl) rfl (by decide) (by kernel_rfl) (by kernel_rfl) (by kernel_rfl) (fun _ _ _ h => h) (Below.refl _ _) ?_
         refine hg_skip 14 (by rfl) (want_f (dj := 146) (by rfl) (by kernel_rfl) rfl) rfl (by decide) (by kernel_rfl) (by kernel_rfl) (by kernel_rfl) (fun _ _ _ h => h) (Below.refl _ _) ?_
         refine hg_skip 15 (by rfl) (want_f (dj := 146) (by rfl) (by kernel_rfl) rfl) rfl (by decide) (by kernel_rfl) (by kernel_rfl) (by kernel_rfl) (fun _ _ _ h => h) (Below.refl _ _) ?_
         refine hg_skip1 16 (Below.refl _ _) (by rfl) (want_f (dj := 146) (by rfl) (by kernel_rfl) rfl) rfl (by decide) (by kernel_rfl) ?_
         refine hg_skip 17 (by rfl) (want_f (dj := 146) (by rfl) (by kernel_rfl) rfl) rfl (by decide) (by kernel_rfl) (by kernel_rfl) (by kernel_rfl) (fun _ _ _ h => h) (Below.refl _ _) ?_
         refine Zh 18 (fun q hq => y_pick false rfl rfl rfl) ?_
         refine Zh 19 (fun q hq => y_move rfl rfl) ?_
         refine Zht 20 158 (fun q hq => y_move rfl rfl) ?_
         refine Zht 21 158 (fun q hq => yi_mul (r := 2) (s := i) rfl rfl rfl (by omega) (by omega)) ?_
         refine Zht 22 158 (fun q hq => y_move rfl rfl) ?_
         refine Zht 23 158 (fun q hq => y_move rfl rfl) ?_
         have h := h.below (hw29.mono (by omega))
         refine Zht 24 158 (fun q hq => y_lenM (el := 43) h.len (by kernel_rfl) rfl rfl) ?_
         have u := Un u hw29
         refine Zot 25 158 ?_
         refine Zct 158 (under_any (2 * i) ((j : Nat) : Int) (Ls.length : Int) _ (Tt.up u rg).b) rfl rfl ?_
         rintro u30 w30 ⟨e30, hw30⟩
         have zw30 := hw30.size
         obtain rfl : u30 = .bool true := e30.trans (congrArg Value.bool (decide_eq_true c28))
         refine hg_next hw30 ?_
         refine hg_up hw30 ?_
         refine Zht 26 158 (fun q hq => y_move rfl rfl) ?_
         refine Zht 27 165 (fun q hq => y_move rfl rfl) ?_
         refine Zht 28 165 (fun q hq => yi_rem (r := ((j : Nat) : Int)) (s := 2) rfl rfl rfl (by omega) (by omega)) ?_
         by_cases c31 : (((j : Nat) : Int) % 2) = 1
         ·refine Zht 29 165 (fun q hq => yb (decide_eq_true c31) (yi_eql rfl rfl rfl)) ?_
          refine Zht 30 158 (fun q hq => y_pick true rfl rfl rfl) ?_
          refine Zht 31 158 (fun q hq => y_move rfl rfl) ?_
          refine Zht 32 170 (fun q hq => y_move rfl rfl) ?_
          refine Zht 33 170 (fun q hq => y_move rfl rfl) ?_
          have hw := hw.below (dW27.mono (by omega))
          have hw := hw.below (hw29.mono (by omega))
          have hw := hw.below (hw30.mono (by omega))
          by_cases c32 : ((j : Nat) : Int) ∈ ((forkL (trAs Ls) i).map Prod.fst)
          ·refine Zot 34 170 ?_
           refine Zt 170 (yb (decide_eq_true c32) (y_call (has_any hw ((j : Nat) : Int)) (by kernel_rfl) rfl rfl)) ?_
           refine hg_next (Below.refl _ _) ?_
           refine Zht 35 170 (fun q hq => y_bnot rfl rfl) ?_
           refine Zht 36 158 (fun q hq => y_pick true rfl rfl rfl) ?_
           refine Zht 37 158 (fun q hq => y_move rfl rfl) ?_
           refine hg_skip 38 (by rfl) (want_f (dj := 176) (by rfl) (by kernel_rfl) rfl) rfl (by decide) (by kernel_rfl) (by kernel_rfl) (by kernel_rfl) (fun _ _ _ h => h) (Below.refl _ _) ?_
           refine hg_skip 39 (by rfl) (want_f (dj := 176) (by rfl) (by kernel_rfl) rfl) rfl (by decide) (by kernel_rfl) (by kernel_rfl) (by kernel_rfl) (fun _ _ _ h => h) (Below.refl _ _) ?_
           refine hg_skip 40 (by rfl) (want_f (dj := 176) (by rfl) (by kernel_rfl) rfl) rfl (by decide) (by kernel_rfl) (by kernel_rfl) (by kernel_rfl) (fun _ _ _ h => h) (Below.refl _ _) ?_
           refine hg_skip 41 (by rfl) (want_f (dj := 176) (by rfl) (by kernel_rfl) rfl) rfl (by decide) (by kernel_rfl) (by kernel_rfl) (by kernel_rfl) (fun _ _ _ h => h) (Below.refl _ _) ?_
           refine hg_skip 42 (by rfl) (want_f (dj := 176) (by rfl) (by kernel_rfl) rfl) rfl (by decide) (by kernel_rfl) (by kernel_rfl) (by kernel_rfl) (fun _ _ _ h => h) (Below.refl _ _) ?_
           refine hg_skip 43 (by rfl) (want_f (dj := 176) (by rfl) (by kernel_rfl) rfl) rfl (by decide) (by kernel_rfl) (by kernel_rfl) (by kernel_rfl) (fun _ _ _ h => h) (Below.refl _ _) ?_
           refine Zht 44 158 (fun q hq => y_pick false rfl rfl rfl) ?_
           refine Zh 45 (fun q hq => y_pick false rfl rfl rfl) ?_
           refine hg_done (by kernel_rfl) ?_
           refine nx (zk5 0 1 7 11 13 rfl rfl rfl rfl rfl (zk2 15 184 rfl rfl fn)) ?_
           refine cg_cf rfl ?_
           refine cg_skip ?_
           refine eg_block_norm ?_
           refine nx (zk5 0 1 7 11 13 rfl rfl rfl rfl rfl (zk1 15 rfl fn)) ?_
           refine cg_region ?_
           refine ZM ?_
           refine Za (yv (congrArg nv (show ((j : Nat) : Int) + 1 = ((j + 1 : Nat) : Int) by omega)) (yi_add rfl rfl rfl (by omega) (by omega))) ?_
           refine ZA ?_
           refine lg_nil ?_
           have h := h.below (hw30.mono (by omega))
           have u := Un u hw30
           have hs := hs.below (dW27.mono (by omega))
           have hs := hs.below (hw29.mono (by omega))
           have hs := hs.below (hw30.mono (by omega))
           exact fun a ha => (show j < (Ls.length + 1) ∧ _ from ⟨(by omega), ha.keep (fk rfl (fk rfl (fk rfl (fk rfl (fk rfl (fk rfl fn)))))), h, u, (by omega), cW, hs, hw, (by omega)⟩)
          ·refine Zot 34 170 ?_
           refine Zt 170 (yb (decide_eq_false c32) (y_call (has_any hw ((j : Nat) : Int)) (by kernel_rfl) rfl rfl)) ?_
           refine hg_next (Below.refl _ _) ?_
           refine Zht 35 170 (fun q hq => y_bnot rfl rfl) ?_
           refine Zht 36 158 (fun q hq => y_pick true rfl rfl rfl) ?_
           refine Zht 37 158 (fun q hq => y_move rfl rfl) ?_
           refine Zht 38 176 (fun q hq => y_move rfl rfl) ?_
           refine Zht 39 176 (fun q hq => y_move rfl rfl) ?_
           have hs := hs.below (dW27.mono (by omega))
           have hs := hs.below (hw29.mono (by omega))
           have hs := hs.below (hw30.mono (by omega))
           obtain ⟨eb33, eo33, el33, eL33, eA33, eB33, eg33, eh33, ec33⟩ := hs.at (j) (by have := hs.len; omega)
           obtain rfl : (atN (setL (planP (trAs Ls) i Ks) (2 * i) (saidX 5 (planH (trAs Ls) i Ks))) j) = eL33 := Option.some.inj (egz25.symm.trans eg33)
           refine Zht 40 176 (fun q hq => y_ixR (s := s12) (el := 43) (k := 8) (i := j) (iI := ((j : Nat) : Int)) eA33 (by kernel_rfl) (by kernel_rfl) (by omega) (by have := hs.len; omega) rfl rfl rfl) ?_
           refine Zht 41 176 (fun q hq => y_fld (off := 0) (by kernel_rfl) rfl rfl) ?_
           refine Zht 42 176 (fun q hq => y_celld ((hq.cell (p := ⟨eb33, _, none⟩) (show eb33 < _ by omega)).trans (ec33 0 _ rfl)) (by kernel_rfl) rfl rfl) ?_
           refine Zht 43 176 (fun q hq => yb (nd_f (show (atN (setL (planP (trAs Ls) i Ks) (2 * i) (saidX 5 (planH (trAs Ls) i Ks))) j).kind = 0 from (by have z := r2 c28 c31 c32; rwa [show ((j : Nat) : Int).toNat = j by omega] at z))) (yi_neq rfl rfl rfl)) ?_
           refine Zht 44 158 (fun q hq => y_pick true rfl rfl rfl) ?_
           refine Zh 45 (fun q hq => y_pick false rfl rfl rfl) ?_
           refine hg_done (by kernel_rfl) ?_
           refine nx (zk5 0 1 7 11 13 rfl rfl rfl rfl rfl (zk2 15 184 rfl rfl fn)) ?_
           refine cg_cf rfl ?_
           refine cg_skip ?_
           refine eg_block_norm ?_
           refine nx (zk5 0 1 7 11 13 rfl rfl rfl rfl rfl (zk1 15 rfl fn)) ?_
           refine cg_region ?_
           refine ZM ?_
           refine Za (yv (congrArg nv (show ((j : Nat) : Int) + 1 = ((j + 1 : Nat) : Int) by omega)) (yi_add rfl rfl rfl (by omega) (by omega))) ?_
           refine ZA ?_
           refine lg_nil ?_
           have h := h.below (hw30.mono (by omega))
           have u := Un u hw30
           exact fun a ha => (show j < (Ls.length + 1) ∧ _ from ⟨(by omega), ha.keep (fk rfl (fk rfl (fk rfl (fk rfl (fk rfl (fk rfl fn)))))), h, u, (by omega), cW, hs, hw, (by omega)⟩)
         ·refine Zht 29 165 (fun q hq => yb (decide_eq_false c31) (yi_eql rfl rfl rfl)) ?_
          refine Zht 30 158 (fun q hq => y_pick true rfl rfl rfl) ?_
          refine Zht 31 158 (fun q hq => y_move rfl rfl) ?_
          refine hg_skip 32 (by rfl) (want_f (dj := 170) (by rfl) (by kernel_rfl) rfl) rfl (by decide) (by kernel_rfl) (by kernel_rfl) (by kernel_rfl) (fun _ _ _ h => h) (Below.refl _ _) ?_
          refine hg_skip 33 (by rfl) (want_f (dj := 170) (by rfl) (by kernel_rfl) rfl) rfl (by decide) (by kernel_rfl) (by kernel_rfl) (by kernel_rfl) (fun _ _ _ h => h) (Below.refl _ _) ?_
          refine hg_skip1 34 (Below.refl _ _) (by rfl) (want_f (dj := 170) (by rfl) (by kernel_rfl) rfl) rfl (by decide) (by kernel_rfl) ?_
          refine hg_skip 35 (by rfl) (want_f (dj := 170) (by rfl) (by kernel_rfl) rfl) rfl (by decide) (by kernel_rfl) (by kernel_rfl) (by kernel_rfl) (fun _ _ _ h => h) (Below.refl _ _) ?_
          refine Zht 36 158 (fun q hq => y_pick false rfl rfl rfl) ?_
          refine Zht 37 158 (fun q hq => y_move rfl rfl) ?_
          refine hg_skip 38 (by rfl) (want_f (dj := 176) (by rfl) (by kernel_rfl) rfl) rfl (by decide) (by kernel_rfl) (by kernel_rfl) (by kernel_rfl) (fun _ _ _ h => h) (Below.refl _ _) ?_
          refine hg_skip 39 (by rfl) (want_f (dj := 176) (by rfl) (by kernel_rfl) rfl) rfl (by decide) (by kernel_rfl) (by kernel_rfl) (by kernel_rfl) (fun _ _ _ h => h) (Below.refl _ _) ?_
          refine hg_skip 40 (by rfl) (want_f (dj := 176) (by rfl) (by kernel_rfl) rfl) rfl (by decide) (by kernel_rfl) (by kernel_rfl) (by kernel_rfl) (fun _ _ _ h => h) (Below.refl _ _) ?_
          refine hg_skip 41 (by rfl) (want_f (dj := 176) (by rfl) (by kernel_rfl) rfl) rfl (by decide) (by kernel_rfl) (by kernel_rfl) (by kernel_rfl) (fun _ _ _ h => h) (Below.refl _ _) ?_
          refine hg_skip 42 (by rfl) (want_f (dj := 176) (by rfl) (by kernel_rfl) rfl) rfl (by decide) (by kernel_rfl) (by kernel_rfl) (by kernel_rfl) (fun _ _ _ h => h) (Below.refl _ _) ?_
          refine hg_skip 43 (by rfl) (want_f (dj := 176) (by rfl) (by kernel_rfl) rfl) rfl (by decide) (by kernel_rfl) (by kernel_rfl) (by kernel_rfl) (fun _ _ _ h => h) (Below.refl _ _) ?_
          refine Zht 44 158 (fun q hq => y_pick false rfl rfl rfl) ?_
          refine Zh 45 (fun q hq => y_pick false rfl rfl rfl) ?_
          refine hg_done (by kernel_rfl) ?_
          refine nx (zk5 0 1 7 11 13 rfl rfl rfl rfl rfl (zk2 15 184 rfl rfl fn)) ?_
          refine cg_cf rfl ?_
          refine cg_skip ?_
          refine eg_block_norm ?_
          refine nx (zk5 0 1 7 11 13 rfl rfl rfl rfl rfl (zk1 15 rfl fn)) ?_
          refine cg_region ?_
          refine ZM ?_
          refine Za (yv (congrArg nv (show ((j : Nat) : Int) + 1 = ((j + 1 : Nat) : Int) by omega)) (yi_add rfl rfl rfl (by omega) (by omega))) ?_
          refine ZA ?_
          refine lg_nil ?_
          have h := h.below (hw30.mono (by omega))
          have u := Un u hw30
          have hs := hs.below (dW27.mono (by omega))
          have hs := hs.below (hw29.mono (by omega))
          have hs := hs.below (hw30.mono (by omega))
          have hw := hw.below (dW27.mono (by omega))
          have hw := hw.below (hw29.mono (by omega))
          have hw := hw.below (hw30.mono (by omega))
          exact fun a ha => (show j < (Ls.length + 1) ∧ _ from ⟨(by omega), ha.keep (fk rfl (fk rfl (fk rfl (fk rfl (fk rfl (fk rfl fn)))))), h, u, (by omega), cW, hs, hw, (by omega)⟩)
        ·refine Zo 5 ?_
         refine Zc (under_any (2 * i) ((j : Nat) : Int) (Ls.length : Int) _ (Tt.up u rg).b) rfl rfl ?_
         rintro u34 w34 ⟨e34, hw34⟩
         have zw34 := hw34.size
         obtain rfl : u34 = .bool false := e34.trans (congrArg Value.bool (decide_eq_false c28))
         refine hg_next hw34 ?_
         refine hg_up hw34 ?_
         refine Zh 6 (fun q hq => y_bnot rfl rfl) ?_
         refine Zh 7 (fun q hq => y_move rfl rfl) ?_
         refine Zht 8 146 (fun q hq => y_move rfl rfl) ?_
         refine Zht 9 146 (fun q hq => y_move rfl rfl) ?_
         have hs := hs.below (dW27.mono (by omega))
         have hs := hs.below (hw34.mono (by omega))
         obtain ⟨eb35, eo35, el35, eL35, eA35, eB35, eg35, eh35, ec35⟩ := hs.at (j) (by have := hs.len; omega)
         obtain rfl : (atN (setL (planP (trAs Ls) i Ks) (2 * i) (saidX 5 (planH (trAs Ls) i Ks))) j) = eL35 := Option.some.inj (egz25.symm.trans eg35)
         refine Zht 10 146 (fun q hq => y_ixR (s := s12) (el := 43) (k := 8) (i := j) (iI := ((j : Nat) : Int)) eA35 (by kernel_rfl) (by kernel_rfl) (by omega) (by have := hs.len; omega) rfl rfl rfl) ?_
         refine Zht 11 146 (fun q hq => y_loadC (cs := el35.cs (atN (setL (planP (trAs Ls) i Ks) (2 * i) (saidX 5 (planH (trAs Ls) i Ks))) j)) (fun k u e => (hq.cell (p := ⟨eb35, _, none⟩) (show eb35 < _ by omega)).trans (ec35 k u e)) (by kernel_rfl) (by kernel_rfl) rfl rfl) ?_
         refine Zht 12 146 (fun q hq => y_move rfl rfl) ?_
         refine Zht 13 146 (fun q hq => y_move rfl rfl) ?_
         have h := h.below (hw34.mono (by omega))
         obtain ⟨eb36, eo36, el36, eL36, eA36, eB36, eg36, eh36, ec36⟩ := h.at (j) (by have := h.len; omega)
         obtain rfl : (atN Ls j) = eL36 := Option.some.inj (egz26.symm.trans eg36)
         refine Zht 14 146 (fun q hq => y_ixR (s := s) (el := 43) (k := 8) (i := j) (iI := ((j : Nat) : Int)) eA36 (by kernel_rfl) (by kernel_rfl) (by omega) (by have := h.len; omega) rfl rfl rfl) ?_
         refine Zht 15 146 (fun q hq => y_loadC (cs := el36.cs (atN Ls j)) (fun k u e => (hq.cell (p := ⟨eb36, _, none⟩) (show eb36 < _ by omega)).trans (ec36 k u e)) (by kernel_rfl) (by kernel_rfl) rfl rfl) ?_
         refine Zot 16 146 ?_
         refine Zct 146 (sameN_any (eh35.more (B' := w34.heap.size) (by omega)) (eh36.more (B' := w34.heap.size) (by omega)) (Nat.le_refl _)) rfl rfl ?_
         rintro u37 w37 ⟨e37, hw37⟩
         have zw37 := hw37.size
         obtain rfl : u37 = .bool true := e37.trans (congrArg Value.bool (decide_eq_true (show NdSame (atN (setL (planP (trAs Ls) i Ks) (2 * i) (saidX 5 (planH (trAs Ls) i Ks))) j) (atN Ls j) from (by have z := r1 c28; rw [show ((j : Nat) : Int).toNat = j by omega] at z; rw [z, hta]; exact nd_same _))))
         refine hg_next hw37 ?_
         refine hg_up hw37 ?_
         refine Zht 17 146 (fun q hq => y_bnot rfl rfl) ?_
         refine Zh 18 (fun q hq => y_pick true rfl rfl rfl) ?_
         refine Zh 19 (fun q hq => y_move rfl rfl) ?_
         refine Zht 20 158 (fun q hq => y_move rfl rfl) ?_
         refine Zht 21 158 (fun q hq => yi_mul (r := 2) (s := i) rfl rfl rfl (by omega) (by omega)) ?_
         refine Zht 22 158 (fun q hq => y_move rfl rfl) ?_
         refine Zht 23 158 (fun q hq => y_move rfl rfl) ?_
         have h := h.below (hw37.mono (by omega))
         refine Zht 24 158 (fun q hq => y_lenM (el := 43) h.len (by kernel_rfl) rfl rfl) ?_
         have u := Un u hw34
         have u := Un u hw37
         refine Zot 25 158 ?_
         refine Zct 158 (under_any (2 * i) ((j : Nat) : Int) (Ls.length : Int) _ (Tt.up u rg).b) rfl rfl ?_
         rintro u38 w38 ⟨e38, hw38⟩
         have zw38 := hw38.size
         obtain rfl : u38 = .bool false := e38.trans (congrArg Value.bool (decide_eq_false c28))
         refine hg_next hw38 ?_
         refine hg_up hw38 ?_
         refine Zht 26 158 (fun q hq => y_move rfl rfl) ?_
         refine hg_skip 27 (by rfl) (want_f (dj := 165) (by rfl) (by kernel_rfl) rfl) rfl (by decide) (by kernel_rfl) (by kernel_rfl) (by kernel_rfl) (fun _ _ _ h => h) (Below.refl _ _) ?_
         refine hg_skip 28 (by rfl) (want_f (dj := 165) (by rfl) (by kernel_rfl) rfl) rfl (by decide) (by kernel_rfl) (by kernel_rfl) (by kernel_rfl) (fun _ _ _ h => h) (Below.refl _ _) ?_
         refine hg_skip 29 (by rfl) (want_f (dj := 165) (by rfl) (by kernel_rfl) rfl) rfl (by decide) (by kernel_rfl) (by kernel_rfl) (by kernel_rfl) (fun _ _ _ h => h) (Below.refl _ _) ?_
         refine Zht 30 158 (fun q hq => y_pick false rfl rfl rfl) ?_
         refine Zht 31 158 (fun q hq => y_move rfl rfl) ?_
         refine hg_skip 32 (by rfl) (want_f (dj := 170) (by rfl) (by kernel_rfl) rfl) rfl (by decide) (by kernel_rfl) (by kernel_rfl) (by kernel_rfl) (fun _ _ _ h => h) (Below.refl _ _) ?_
         refine hg_skip 33 (by rfl) (want_f (dj := 170) (by rfl) (by kernel_rfl) rfl) rfl (by decide) (by kernel_rfl) (by kernel_rfl) (by kernel_rfl) (fun _ _ _ h => h) (Below.refl _ _) ?_
         refine hg_skip1 34 (Below.refl _ _) (by rfl) (want_f (dj := 170) (by rfl) (by kernel_rfl) rfl) rfl (by decide) (by kernel_rfl) ?_
         refine hg_skip 35 (by rfl) (want_f (dj := 170) (by rfl) (by kernel_rfl) rfl) rfl (by decide) (by kernel_rfl) (by kernel_rfl) (by kernel_rfl) (fun _ _ _ h => h) (Below.refl _ _) ?_
         refine Zht 36 158 (fun q hq => y_pick false rfl rfl rfl) ?_
         refine Zht 37 158 (fun q hq => y_move rfl rfl) ?_
         refine hg_skip 38 (by rfl) (want_f (dj := 176) (by rfl) (by kernel_rfl) rfl) rfl (by decide) (by kernel_rfl) (by kernel_rfl) (by kernel_rfl) (fun _ _ _ h => h) (Below.refl _ _) ?_
         refine hg_skip 39 (by rfl) (want_f (dj := 176) (by rfl) (by kernel_rfl) rfl) rfl (by decide) (by kernel_rfl) (by kernel_rfl) (by kernel_rfl) (fun _ _ _ h => h) (Below.refl _ _) ?_
         refine hg_skip 40 (by rfl) (want_f (dj := 176) (by rfl) (by kernel_rfl) rfl) rfl (by decide) (by kernel_rfl) (by kernel_rfl) (by kernel_rfl) (fun _ _ _ h => h) (Below.refl _ _) ?_
         refine hg_skip 41 (by rfl) (want_f (dj := 176) (by rfl) (by kernel_rfl) rfl) rfl (by decide) (by kernel_rfl) (by kernel_rfl) (by kernel_rfl) (fun _ _ _ h => h) (Below.refl _ _) ?_
         refine hg_skip 42 (by rfl) (want_f (dj := 176) (by rfl) (by kernel_rfl) rfl) rfl (by decide) (by kernel_rfl) (by kernel_rfl) (by kernel_rfl) (fun _ _ _ h => h) (Below.refl _ _) ?_
         refine hg_skip 43 (by rfl) (want_f (dj := 176) (by rfl) (by kernel_rfl) rfl) rfl (by decide) (by kernel_rfl) (by kernel_rfl) (by kernel_rfl) (fun _ _ _ h => h) (Below.refl _ _) ?_
         refine Zht 44 158 (fun q hq => y_pick false rfl rfl rfl) ?_
         refine Zh 45 (fun q hq => y_pick false rfl rfl rfl) ?_
         refine hg_done (by kernel_rfl) ?_
         refine nx (zk5 0 1 7 11 13 rfl rfl rfl rfl rfl (zk2 15 184 rfl rfl fn)) ?_
         refine cg_cf rfl ?_
         refine cg_skip ?_
         refine eg_block_norm ?_
         refine nx (zk5 0 1 7 11 13 rfl rfl rfl rfl rfl (zk1 15 rfl fn)) ?_
         refine cg_region ?_
         refine ZM ?_
         refine Za (yv (congrArg nv (show ((j : Nat) : Int) + 1 = ((j + 1 : Nat) : Int) by omega)) (yi_add rfl rfl rfl (by omega) (by omega))) ?_
         refine ZA ?_
         refine lg_nil ?_
         have h := h.below (hw38.mono (by omega))
         have u := Un u hw38
         have hs := hs.below (hw37.mono (by omega))
         have hs := hs.below (hw38.mono (by omega))
         have hw := hw.below (dW27.mono (by omega))
         have hw := hw.below (hw34.mono (by omega))
         have hw := hw.below (hw37.mono (by omega))
         have hw := hw.below (hw38.mono (by omega))
         exact fun a ha => (show j < (Ls.length + 1) ∧ _ from ⟨(by omega), ha.keep (fk rfl (fk rfl (fk rfl (fk rfl (fk rfl (fk rfl fn)))))), h, u, (by omega), cW, hs, hw, (by omega)⟩)
       ·refine Za (yb (decide_eq_false c24) (yi_lss rfl rfl rfl)) ?_
        refine Zn (zk5 0 1 7 11 13 rfl rfl rfl rfl rfl (zk2 15 136 rfl rfl fn)) ?_
        refine cg_cf rfl ?_
        refine cg_exit ?_
        refine eg_seq_exit ?_
        refine eg_seq_exit ?_
        refine eg_block_exit ?_
        refine nx (zk3 0 7 11 rfl rfl rfl fn) ?_
        refine Zr ?_
        refine ZM ?_
        refine ZM ?_
        refine Zt 186 (y_move rfl rfl) ?_
        by_cases c39 : verL (trAs Ls)
        ·refine Zct 186 (verify_any (h.more (B' := v.heap.size) (by omega)) (Nat.le_refl _) (Tt.up u rg)) rfl rfl ?_
         rintro u40 w40 ⟨e40, hw40⟩
         have zw40 := hw40.size
         obtain rfl : u40 = .bool true := e40.trans (congrArg Value.bool (decide_eq_true c39))
         refine Zt 186 (y_bnot rfl rfl) ?_
         refine Zt 186 (y_move rfl rfl) ?_
         refine Zt 190 (y_move rfl rfl) ?_
         have hs := hs.below (hw40.mono (by omega))
         have u := Un u hw40
         refine Zct 190 (verify_any (hs.more (B' := w40.heap.size) (by omega)) (Nat.le_refl _) (Tt.up u rg)) rfl rfl ?_
         rintro u41 w41 ⟨e41, hw41⟩
         have zw41 := hw41.size
         obtain rfl : u41 = .bool true := e41.trans (congrArg Value.bool (decide_eq_true (show verL (trAs (setL (planP (trAs Ls) i Ks) (2 * i) (saidX 5 (planH (trAs Ls) i Ks)))) from (by rw [hsa]; exact plan_all (trAs_is Ls) hE f2 f4 rfl rfl rfl c39))))
         refine Zt 186 (y_pick false rfl rfl rfl) ?_
         refine Za (y_pick true rfl rfl rfl) ?_
         refine ZA ?_
         refine Zn (zk1 6 rfl fn) ?_
         refine cg_ret ?_
         have u := Un u hw41
         exact eg_ret_tmp rfl rfl ⟨_, rfl, rfl, u⟩
        ·refine Zct 186 (verify_any (h.more (B' := v.heap.size) (by omega)) (Nat.le_refl _) (Tt.up u rg)) rfl rfl ?_
         rintro u42 w42 ⟨e42, hw42⟩
         have zw42 := hw42.size
         obtain rfl : u42 = .bool false := e42.trans (congrArg Value.bool (decide_eq_false c39))
         refine Zt 186 (y_bnot rfl rfl) ?_
         refine Zt 186 (y_move rfl rfl) ?_
         refine Zf 190 ?_
         refine Zf 190 ?_
         refine Zt 186 (y_pick true rfl rfl rfl) ?_
         refine Za (y_pick true rfl rfl rfl) ?_
         refine ZA ?_
         refine Zn (zk1 6 rfl fn) ?_
         refine cg_ret ?_
         have u := Un u hw42
         exact eg_ret_tmp rfl rfl ⟨_, rfl, rfl, u⟩
     ·obtain ⟨n1, n2⟩ := planP_no c10
      refine Za (yb (nd_t c10) (yi_neq rfl rfl rfl)) ?_
      refine Zn (zk5 0 1 2 6 7 rfl rfl rfl rfl rfl (zk3 8 9 45 rfl rfl rfl fn)) ?_
      refine cg_ct rfl ?_
      refine Zr ?_
      refine ZM ?_
      refine ZM ?_
      refine Zt 47 (y_move rfl rfl) ?_
      refine Zt 47 (y_lenM (el := 43) m9.len (by kernel_rfl) rfl rfl) ?_
      refine Zt 47 (yb (decide_eq_true (show ((planP (trAs Ls) i Ks).length : Int) = 0 from (by rw [n1]; rfl))) (yi_eql rfl rfl rfl)) ?_
      refine Za (y_pick true rfl rfl rfl) ?_
      refine ZM ?_
      refine Zt 52 (y_move rfl rfl) ?_
      refine Zt 52 (y_lenS (el := 5) n9 (by kernel_rfl) rfl rfl) ?_
      refine Zt 52 (yb (decide_eq_true (show ((planH (trAs Ls) i Ks).length : Int) = 0 from (by rw [n2]; rfl))) (yi_eql rfl rfl rfl)) ?_
      refine Za (y_pick true rfl rfl rfl) ?_
      refine ZA ?_
      refine Zn (zk5 0 1 2 7 8 rfl rfl rfl rfl rfl (zk2 9 6 rfl rfl fn)) ?_
      refine cg_ret ?_
      refine eg_seq_ret ?_
      have u := Un u hw9
      exact eg_ret_tmp rfl rfl ⟨_, rfl, rfl, u⟩
    ·refine Zct 30 (fewO_any (hk.more (B' := w6.heap.size) (by omega)) (Nat.le_refl _)) rfl rfl ?_
     rintro u43 w43 ⟨e43, hw43⟩
     have zw43 := hw43.size
     obtain rfl : u43 = .bool false := e43.trans (congrArg Value.bool (decide_eq_false c7))
     refine Zt 30 (y_bnot rfl rfl) ?_
     refine Za (y_pick false rfl rfl rfl) ?_
     refine Zn (zk5 0 1 2 6 7 rfl rfl rfl rfl rfl (zk1 34 rfl fn)) ?_
     refine cg_ct rfl ?_
     refine Zr ?_
     refine ZM ?_
     refine ZA ?_
     refine Zn (zk5 0 1 2 7 6 rfl rfl rfl rfl rfl fn) ?_
     refine cg_ret ?_
     refine eg_seq_ret ?_
     have u := Un u hw1
     have u := Un u hw3
     have u := Un u hw6
     have u := Un u hw43
     exact eg_ret_tmp rfl rfl ⟨_, rfl, rfl, u⟩
   ·refine Zct 25 (sane_any (h.more (B' := w3.heap.size) (by omega)) (Nat.le_refl _)) rfl rfl ?_
    rintro u44 w44 ⟨e44, hw44⟩
    have zw44 := hw44.size
    obtain rfl : u44 = .bool false := e44.trans (congrArg Value.bool (decide_eq_false c5))
    refine Zt 25 (y_bnot rfl rfl) ?_
    refine Za (y_pick false rfl rfl rfl) ?_
    refine ZM ?_
    refine Zf 30 ?_
    refine Zf 30 ?_
    refine Zf 30 ?_
    refine Za (y_pick true rfl rfl rfl) ?_
    refine Zn (zk5 0 1 2 6 7 rfl rfl rfl rfl rfl (zk1 34 rfl fn)) ?_
    refine cg_ct rfl ?_
    refine Zr ?_
    refine ZM ?_
    refine ZA ?_
    refine Zn (zk5 0 1 2 7 6 rfl rfl rfl rfl rfl fn) ?_
    refine cg_ret ?_
    refine eg_seq_ret ?_
    have u := Un u hw1
    have u := Un u hw3
    have u := Un u hw44
    exact eg_ret_tmp rfl rfl ⟨_, rfl, rfl, u⟩
 ·refine Zc (fewR_any (h.more (B' := w1.heap.size) (by omega)) (Nat.le_refl _)) rfl rfl ?_
  rintro u45 w45 ⟨e45, hw45⟩
  have zw45 := hw45.size
  obtain rfl : u45 = .bool false := e45.trans (congrArg Value.bool (decide_eq_false c2))
  refine Za (y_bnot rfl rfl) ?_
  refine ZM ?_
  refine Zf 20 ?_
  refine Zf 20 ?_
  refine Zf 20 ?_
  refine Za (y_pick true rfl rfl rfl) ?_
  refine ZM ?_
  refine Zf 25 ?_
  refine Zf 25 ?_
  refine Zf 25 ?_
  refine Za (y_pick true rfl rfl rfl) ?_
  refine ZM ?_
  refine Zf 30 ?_
  refine Zf 30 ?_
  refine Zf 30 ?_
  refine Za (y_pick true rfl rfl rfl) ?_
  refine Zn (zk5 0 1 2 6 7 rfl rfl rfl rfl rfl (zk1 34 rfl fn)) ?_
  refine cg_ct rfl ?_
  refine Zr ?_
  refine ZM ?_
  refine ZA ?_
  refine Zn (zk5 0 1 2 7 6 rfl rfl rfl rfl rfl fn) ?_
  refine cg_ret ?_
  refine eg_seq_ret ?_
  have u := Un u hw1
  have u := Un u hw45
  exact eg_ret_tmp rfl rfl ⟨_, rfl, rfl, u⟩
end Go.Proofs.YtfbnallapgokeaaGreatDoor
