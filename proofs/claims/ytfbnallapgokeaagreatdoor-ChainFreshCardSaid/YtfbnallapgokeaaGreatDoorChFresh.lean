/-
  What stood on the way does not matter.
-/
import Derived.Test.YtfbnallapgokeaaGreatDoorChAwake
import Derived.Test.YtfbnallapgokeaaGreatDoorTrRef
namespace Go.Proofs.YtfbnallapgokeaaGreatDoor
open Go.ChangeShapes Go.WideShapes Go.ChangeAt Go.RowKit
set_option linter.unusedVariables false

set_option maxRecDepth 20000
theorem clear_off {Ls : List Nd} {i : Int} (h : clearE Ls i = 0) : offW i (trAs Ls) (clearL Ls i) ∧ ∀ y : Nat, ¬ (y : Int) = 2 * i → (y : Int) ∉ dirI (2 * i) ((trAs Ls).length : Int) → atN (clearL Ls i) y = atN (trAs Ls) y := by
 obtain ⟨hN, h0, h1⟩ := clear_node h
 have leN := hN.le
 have hp : ∀ d ∈ dirI (2 * i) ((trAs Ls).length : Int), 0 ≤ d := fin2 (p := fun x w => ∀ d ∈ dirI x w, 0 ≤ d) (by kernel_rfl) hN
 have key : ∀ y : Nat, ¬ (y : Int) = 2 * i → (y : Int) ∉ dirI (2 * i) ((trAs Ls).length : Int) → atN (clearL Ls i) y = atN (trAs Ls) y := fun y h2 h3 => by
  rw [clearL_ok h, clr_at _ _ _ hp, if_neg h3, atN_set (by omega), if_neg (by omega)]
 refine ⟨⟨by rw [clearL_ok h, clr_len, List.length_set], fun y hy u => ?_⟩, key⟩
 obtain ⟨a, b⟩ := on_way hN hy u
 have := hy.le
 have e : ((y.toNat : Nat) : Int) = y := by omega
 exact key y.toNat (by omega) (by rw [e]; exact b)
theorem clear_is {Ls : List Nd} {i : Int} (h : clearE Ls i = 0) : trIs (clearL Ls i) := by
 rw [clearL_ok h]
 exact clr_is _ (trIs_set (trAs_is Ls) (ok_zero _))
theorem planE_off {a s : List Nd} {i : Int} {ks : List (List Int)} (ha : trIs a) (h : offW i a s) : planE s i ks = planE a i ks := by
 unfold planE
 rw [fork_off ha h, show leavesA s = leavesA a by unfold leavesA; rw [h.1]]
theorem fresh_facts {Ls : List Nd} {i : Int} {Ks : List (List Int)} (hE : planE (trAs Ls) i Ks = 0) :
  planE (trAs (clearL Ls i)) i Ks = 0 ∧ planE (trAs (planP (trAs Ls) i Ks)) i Ks = 0 ∧ planH (trAs Ls) i Ks = planH (trAs (clearL Ls i)) i Ks ∧ planH (trAs Ls) i Ks = planH (trAs (planP (trAs Ls) i Ks)) i Ks ∧
  planP (trAs (planP (trAs Ls) i Ks)) i Ks = planP (trAs Ls) i Ks ∧ (planP (trAs Ls) i Ks).length = (planP (trAs (clearL Ls i)) i Ks).length ∧ ∀ t : Nat, ¬ (t : Int) = 2 * i → atN (planP (trAs Ls) i Ks) t = atN (planP (trAs (clearL Ls i)) i Ks) t := by
 have ha := trAs_is Ls
 obtain ⟨hN, h0⟩ := plan_node ha hE
 have hNl := hN.le
 obtain ⟨hr, hkl, _⟩ := planE_ok hE
 have hc : clearE Ls i = 0 := clearE_ok (by omega) (by omega)
 have hca := trAs_ok (clear_is hc)
 have hpa := trAs_ok (planP_is ha i Ks)
 obtain ⟨hco, hck⟩ := clear_off hc
 have hpo := plan_off ha hE
 have e1 : planE (clearL Ls i) i Ks = 0 := by rw [planE_off ha hco, hE]
 have e2 : planE (planP (trAs Ls) i Ks) i Ks = 0 := by rw [planE_off ha hpo, hE]
 have hp : ∀ d ∈ dirI (2 * i) ((trAs Ls).length : Int), 0 ≤ d := fin2 (p := fun x w => ∀ d ∈ dirI x w, 0 ≤ d) (by kernel_rfl) hN
 rw [hca, hpa]
 -- from the cleared one
 have hm : (((2 * i).toNat : Nat) : Int) = 2 * i := by omega
 have hz1 : planZ (clearL Ls i) i Ks = planZ (trAs Ls) i Ks := by unfold planZ; rw [fork_off ha hco]
 have hz2 : planZ (planP (trAs Ls) i Ks) i Ks = planZ (trAs Ls) i Ks := by unfold planZ; rw [fork_off ha hpo]
 have c1 := plan_congr (a := plan0 (trAs Ls) i) (b := plan0 (clearL Ls i) i) (m := (2 * i).toNat) (by rw [plan0_len, plan0_len, hco.1]) (fun y hy => by
  unfold plan0
  rw [hco.1, clr_at _ _ _ hp, clr_at _ _ _ hp]
  by_cases q : (y : Int) ∈ dirI (2 * i) ((trAs Ls).length : Int)
  ·rw [if_pos q, if_pos q]
  ·rw [if_neg q, if_neg q, hck y (by omega) q]) (Z := planZ (trAs Ls) i Ks) (fun z hz => by
  rw [plan0_len, hm]
  obtain ⟨z1, z2, _⟩ := planZ_nodes ha hE z hz
  have hzm := List.of_mem_zip (l₁ := forkL (trAs Ls) i) (l₂ := Ks) (a := z.1) (b := z.2) hz
  have hw := (List.of_mem_zip (fork_nodes ha hzm.1).2.2.2.2).2
  obtain ⟨j, hj, ej⟩ := mem_getD hw
  have := z1.le
  refine ⟨z1, by omega, ?_⟩
  rw [← ej]
  exact (way_at hN (by rw [← (dir_len hN).2]; exact hj)).2.2.2.2.2.1)
 -- from the planned one
 have c2 : plan0 (planP (trAs Ls) i Ks) i = plan0 (trAs Ls) i := by
  unfold plan0
  rw [planP_len hE]
  refine list_atN (by rw [clr_len, clr_len, planP_len hE]) fun y hy => ?_
  rw [clr_len, planP_len hE] at hy
  rw [clr_at _ _ _ hp, clr_at _ _ _ hp]
  by_cases q : (y : Int) ∈ dirI (2 * i) ((trAs Ls).length : Int)
  ·rw [if_pos q, if_pos q]
  ·rw [if_neg q, if_neg q]
   by_cases z : (y : Int) = 2 * i
   ·have := plan_leaf ha hE
    rwa [show (2 * i).toNat = y by omega] at this
   ·have hyn : isN (y : Int) ((trAs Ls).length : Int) := isN_of ha (by omega) (by omega)
    have := hpo.2 y hyn (fun u => ((und_dir hN hyn).2 u).elim (fun e => z e.symm) q)
    rwa [show ((y : Nat) : Int).toNat = y by omega] at this
 obtain ⟨p1, p2⟩ := planP_ok hE
 obtain ⟨r1, r2⟩ := planP_ok e1
 obtain ⟨s1, s2⟩ := planP_ok e2
 rw [hz1] at r1 r2
 rw [hz2, c2] at s1 s2
 refine ⟨e1, e2, by rw [p2, r2, c1.1], by rw [p2, s2], by rw [s1, p1], by rw [planP_len hE, planP_len e1, hco.1], fun t ht => ?_⟩
 rw [p1, r1]
 exact c1.2 t (by omega)
set_option maxHeartbeats 4000000 in
theorem chainFresh_any {W : World} {s : SlV} {Ls : List Nd} (h : RwNd W W.heap.size s Ls) (i : Int) {r : SlV} {Ks : List (List Int)} (hk : RwOc W W.heap.size r Ks) (rg : Tt W) : Calls Tryz.prog 8 #[s.v, nv i, r.v] W fun e W' => ∃ v, e = .returned v ∧ v = .bool true ∧ Below W.heap.size W W' := by
 refine calls_cg (n := 129) Tryz.func8 rfl Tryz.ntmps8 (by simp) ?_
 show CG _ _ _ [(0, s.v), (1, nv i), (2, r.v)] _ _
 have u := Below.refl W.heap.size W
 have q1 := h.len
 have q2 := h.cap
 have q3 := hk.len
 have q4 := hk.cap
 refine Zr ?_
 refine ZA ?_
 refine Zn (zk3 0 1 2 rfl rfl rfl (zk1 6 rfl fn)) ?_
 refine Zr ?_
 refine Zc (awakeC_any _ (Tt.up u rg)) rfl rfl ?_
 rintro _ w1 ⟨rfl, hw1⟩
 have zw1 := hw1.size
 refine ZA ?_
 refine Zn (zk5 0 1 2 6 7 rfl rfl rfl rfl rfl fn) ?_
 refine cg_seq ?_
 refine Zr ?_
 refine ZM ?_
 have h := h.below (hw1.mono (by omega))
 by_cases c2 : trFew Ls
 ·refine Zc (fewR_any (h.more (B' := w1.heap.size) (by omega)) (Nat.le_refl _)) rfl rfl ?_
  rintro u3 w3 ⟨e3, hw3⟩
  have zw3 := hw3.size
  obtain rfl : u3 = .bool true := e3.trans (congrArg Value.bool (decide_eq_true c2))
  refine Za (y_bnot rfl rfl) ?_
  refine ZM ?_
  refine Zt 24 (y_move rfl rfl) ?_
  have h := h.below (hw3.mono (by omega))
  refine Zt 24 (y_lenM (el := 43) h.len (by kernel_rfl) rfl rfl) ?_
  by_cases c4 : 20 < (Ls.length : Int)
  ·refine Zt 24 (yb (decide_eq_true c4) (yi_gtr rfl rfl rfl)) ?_
   refine Za (y_pick false rfl rfl rfl) ?_
   refine ZM ?_
   refine Zf 29 ?_
   refine Zf 29 ?_
   refine Zf 29 ?_
   refine Za (y_pick true rfl rfl rfl) ?_
   refine ZM ?_
   refine Zf 34 ?_
   refine Zf 34 ?_
   refine Zf 34 ?_
   refine Za (y_pick true rfl rfl rfl) ?_
   refine Zn (zk5 0 1 2 6 7 rfl rfl rfl rfl rfl (zk1 38 rfl fn)) ?_
   refine cg_ct rfl ?_
   refine Zr ?_
   refine ZM ?_
   refine ZA ?_
   refine Zn (zk5 0 1 2 7 6 rfl rfl rfl rfl rfl fn) ?_
   refine cg_ret ?_
   refine eg_seq_ret ?_
   have u := Un u hw1
   have u := Un u hw3
   exact eg_ret_tmp rfl rfl ⟨_, rfl, rfl, u⟩
  ·refine Zt 24 (yb (decide_eq_false c4) (yi_gtr rfl rfl rfl)) ?_
   refine Za (y_pick false rfl rfl rfl) ?_
   refine ZM ?_
   refine Zt 29 (y_move rfl rfl) ?_
   by_cases c5 : trIs Ls
   ·have htr := c5
    have htl := trIs_le htr
    have hta := trAs_ok htr
    refine Zct 29 (sane_any (h.more (B' := w3.heap.size) (by omega)) (Nat.le_refl _)) rfl rfl ?_
    rintro u6 w6 ⟨e6, hw6⟩
    have zw6 := hw6.size
    obtain rfl : u6 = .bool true := e6.trans (congrArg Value.bool (decide_eq_true c5))
    refine Zt 29 (y_bnot rfl rfl) ?_
    refine Za (y_pick false rfl rfl rfl) ?_
    refine ZM ?_
    refine Zt 34 (y_move rfl rfl) ?_
    have hk := hk.below (hw1.mono (by omega))
    have hk := hk.below (hw3.mono (by omega))
    have hk := hk.below (hw6.mono (by omega))
    by_cases c7 : ocFew Ks
    ·refine Zct 34 (fewO_any (hk.more (B' := w6.heap.size) (by omega)) (Nat.le_refl _)) rfl rfl ?_
     rintro u8 w8 ⟨e8, hw8⟩
     have zw8 := hw8.size
     obtain rfl : u8 = .bool true := e8.trans (congrArg Value.bool (decide_eq_true c7))
     refine Zt 34 (y_bnot rfl rfl) ?_
     refine Za (y_pick false rfl rfl rfl) ?_
     refine Zn (zk5 0 1 2 6 7 rfl rfl rfl rfl rfl (zk1 38 rfl fn)) ?_
     refine cg_cf rfl ?_
     refine cg_skip ?_
     refine nx (zk5 0 1 2 6 7 rfl rfl rfl rfl rfl fn) ?_
     refine Zr ?_
     refine ZM ?_
     refine ZM ?_
     refine ZM ?_
     have hk := hk.below (hw8.mono (by omega))
     have h := h.below (hw6.mono (by omega))
     have h := h.below (hw8.mono (by omega))
     have u := Un u hw1
     have u := Un u hw3
     have u := Un u hw6
     have u := Un u hw8
     refine Zc (plan_any (h.more (B' := w8.heap.size) (by omega)) i (hk.more (B' := w8.heap.size) (by omega)) (Nat.le_refl _) (Tt.up u rg)) rfl rfl ?_
     rintro _ w9 ⟨s9, r9, rfl, m9, n9, hw9⟩
     have zw9 := hw9.size
     have pl9 := planH_le (trAs Ls) i Ks
     refine ZM ?_
     refine Za (y_extract rfl rfl rfl) ?_
     refine Za (y_extract rfl rfl rfl) ?_
     refine Za (y_extract rfl rfl rfl) ?_
     refine ZA ?_
     refine ZA ?_
     refine ZA ?_
     refine Zn (zk5 0 1 2 6 7 rfl rfl rfl rfl rfl (zk3 8 9 10 rfl rfl rfl fn)) ?_
     refine cg_seq ?_
     refine Zr ?_
     refine ZM ?_
     by_cases c10 : (planE (trAs Ls) i Ks) = 0
     ·have hE := c10
      obtain ⟨hN, hi0⟩ := plan_node (trAs_is Ls) hE
      have leN := hN.le
      have tl := trAs_le Ls
      obtain ⟨f1, f2, f3, f4, f5, f6, f7⟩ := fresh_facts (Ls := Ls) (i := i) (Ks := Ks) hE
      refine Za (yb (nd_f c10) (yi_neq rfl rfl rfl)) ?_
      refine Zn (zk5 0 1 2 6 7 rfl rfl rfl rfl rfl (zk3 8 9 49 rfl rfl rfl fn)) ?_
      refine cg_cf rfl ?_
      refine cg_skip ?_
      refine nx (zk5 0 1 2 6 7 rfl rfl rfl rfl rfl (zk2 8 9 rfl rfl fn)) ?_
      refine Zr ?_
      refine ZM ?_
      refine ZM ?_
      have h := h.below (hw9.mono (by omega))
      have u := Un u hw9
      refine Zc (clear_any (h.more (B' := w9.heap.size) (by omega)) i (Nat.le_refl _) (Tt.up u rg).b) rfl rfl ?_
      rintro _ w11 ⟨s11, rfl, m11, hw11⟩
      have zw11 := hw11.size
      refine ZM ?_
      refine Za (y_extract rfl rfl rfl) ?_
      refine Za (y_extract rfl rfl rfl) ?_
      refine ZA ?_
      refine ZA ?_
      refine Zn (zk5 1 2 6 7 8 rfl rfl rfl rfl rfl (zk2 9 11 rfl rfl fn)) ?_
      refine Zr ?_
      refine ZM ?_
      refine ZM ?_
      refine ZM ?_
      have hk := hk.below (hw9.mono (by omega))
      have hk := hk.below (hw11.mono (by omega))
      have u := Un u hw11
      refine Zc (plan_any (m11.more (B' := w11.heap.size) (by omega)) i (hk.more (B' := w11.heap.size) (by omega)) (Nat.le_refl _) (Tt.up u rg)) rfl rfl ?_
      rintro _ w12 ⟨s12, r12, rfl, m12, n12, hw12⟩
      have zw12 := hw12.size
      have pl12 := planH_le (trAs (clearL Ls i)) i Ks
      refine ZM ?_
      refine Za (y_extract rfl rfl rfl) ?_
      refine Za (y_extract rfl rfl rfl) ?_
      refine Za (y_extract rfl rfl rfl) ?_
      refine ZA ?_
      refine ZA ?_
      refine ZA ?_
      refine Zn (zk5 1 2 6 7 8 rfl rfl rfl rfl rfl (zk3 9 13 14 rfl rfl rfl (zk1 15 rfl fn))) ?_
      refine Zr ?_
      refine ZM ?_
      refine ZM ?_
      refine ZM ?_
      have hk := hk.below (hw12.mono (by omega))
      have m9 := m9.below (hw11.mono (by omega))
      have m9 := m9.below (hw12.mono (by omega))
      have u := Un u hw12
      refine Zc (plan_any (m9.more (B' := w12.heap.size) (by omega)) i (hk.more (B' := w12.heap.size) (by omega)) (Nat.le_refl _) (Tt.up u rg)) rfl rfl ?_
      rintro _ w13 ⟨s13, r13, rfl, m13, n13, hw13⟩
      have zw13 := hw13.size
      have pl13 := planH_le (trAs (planP (trAs Ls) i Ks)) i Ks
      refine ZM ?_
      refine Za (y_extract rfl rfl rfl) ?_
      refine Za (y_extract rfl rfl rfl) ?_
      refine Za (y_extract rfl rfl rfl) ?_
      refine ZA ?_
      refine ZA ?_
      refine ZA ?_
      refine Zn (zk5 1 6 7 8 9 rfl rfl rfl rfl rfl (zk5 13 14 15 16 17 rfl rfl rfl rfl rfl (zk1 18 rfl fn))) ?_
      refine cg_seq ?_
      refine Zr ?_
      refine ZM ?_
      refine Za (yb (nd_f f1) (yi_neq rfl rfl rfl)) ?_
      refine ZM ?_
      refine Zt 75 (y_move rfl rfl) ?_
      refine Zt 75 (yb (nd_f f2) (yi_neq rfl rfl rfl)) ?_
      refine Za (y_pick false rfl rfl rfl) ?_
      refine ZM ?_
      refine Zt 79 (y_move rfl rfl) ?_
      have n9 := n9.below (hw11.mono (by omega))
      have n9 := n9.below (hw12.mono (by omega))
      have n9 := n9.below (hw13.mono (by omega))
      have by14 : Bytes (planH (trAs Ls) i Ks) := n9.bytes
      refine Zt 79 (y_strS n9 rfl rfl) ?_
      refine Zt 79 (y_move rfl rfl) ?_
      have n12 := n12.below (hw13.mono (by omega))
      have by15 : Bytes (planH (trAs (clearL Ls i)) i Ks) := n12.bytes
      refine Zt 79 (y_strS n12 rfl rfl) ?_
      refine Zt 79 (yb (nd_f f3) (y_sneS (xs := (planH (trAs Ls) i Ks)) (ys := (planH (trAs (clearL Ls i)) i Ks)) by14 by15 rfl rfl rfl)) ?_
      refine Za (y_pick false rfl rfl rfl) ?_
      refine ZM ?_
      refine Zt 86 (y_move rfl rfl) ?_
      have by16 : Bytes (planH (trAs Ls) i Ks) := n9.bytes
      refine Zt 86 (y_strS n9 rfl rfl) ?_
      refine Zt 86 (y_move rfl rfl) ?_
      have by17 : Bytes (planH (trAs (planP (trAs Ls) i Ks)) i Ks) := n13.bytes
      refine Zt 86 (y_strS n13 rfl rfl) ?_
      refine Zt 86 (yb (nd_f f4) (y_sneS (xs := (planH (trAs Ls) i Ks)) (ys := (planH (trAs (planP (trAs Ls) i Ks)) i Ks)) by16 by17 rfl rfl rfl)) ?_
      refine Za (y_pick false rfl rfl rfl) ?_
      refine ZM ?_
      refine Zt 93 (y_move rfl rfl) ?_
      refine Zt 93 (y_move rfl rfl) ?_
      have m9 := m9.below (hw13.mono (by omega))
      refine Zct 93 (sameR_any (m9.more (B' := w13.heap.size) (by omega)) (m13.more (B' := w13.heap.size) (by omega)) (Nat.le_refl _)) rfl rfl ?_
      rintro u18 w18 ⟨e18, hw18⟩
      have zw18 := hw18.size
      obtain rfl : u18 = .bool true := e18.trans (congrArg Value.bool (decide_eq_true (show trSame (planP (trAs Ls) i Ks) (planP (trAs (planP (trAs Ls) i Ks)) i Ks) from (by rw [f5]; exact tr_same _))))
      refine Zt 93 (y_bnot rfl rfl) ?_
      refine Za (y_pick false rfl rfl rfl) ?_
      refine ZM ?_
      refine Zt 99 (y_move rfl rfl) ?_
      have m9 := m9.below (hw18.mono (by omega))
      refine Zt 99 (y_lenM (el := 43) m9.len (by kernel_rfl) rfl rfl) ?_
      refine Zt 99 (y_move rfl rfl) ?_
      have m12 := m12.below (hw13.mono (by omega))
      have m12 := m12.below (hw18.mono (by omega))
      refine Zt 99 (y_lenM (el := 43) m12.len (by kernel_rfl) rfl rfl) ?_
      refine Zt 99 (yb (nd_f (show ((planP (trAs Ls) i Ks).length : Int) = ((planP (trAs (clearL Ls i)) i Ks).length : Int) from (by rw [f6]))) (yi_neq rfl rfl rfl)) ?_
      refine Za (y_pick false rfl rfl rfl) ?_
      refine Zn (zk5 1 6 7 8 13 rfl rfl rfl rfl rfl (zk1 105 rfl fn)) ?_
      refine cg_cf rfl ?_
      refine cg_skip ?_
      refine nx (zk5 1 6 7 8 13 rfl rfl rfl rfl rfl fn) ?_
      refine cg_seq ?_
      refine Zr ?_
      refine ZA ?_
      refine Zn (zk5 1 6 7 8 13 rfl rfl rfl rfl rfl (zk1 19 rfl fn)) ?_
      refine cg_block ?_
      obtain ⟨C, hC⟩ : ∃ q, q = w18.heap.size := ⟨_, rfl⟩
      have h := h.below (hw11.mono (by omega))
      have h := h.below (hw12.mono (by omega))
      have h := h.below (hw13.mono (by omega))
      have h := h.below (hw18.mono (by omega))
      have u := Un u hw13
      have u := Un u hw18
      refine cg_loopE (fun t a v => Holds 129 [(1, nv i), (7, .bool true), (8, s9.v), (13, s12.v), (19, nv ((t : Nat) : Int))] a ∧ RwNd v W.heap.size s Ls ∧ Below W.heap.size W v ∧ C ≤ v.heap.size ∧ W.heap.size ≤ C ∧ RwNd v C s9 (planP (trAs Ls) i Ks) ∧ RwNd v C s12 (planP (trAs (clearL Ls i)) i Ks) ∧ t ≤ (planP (trAs Ls) i Ks).length) ((planP (trAs Ls) i Ks).length + 1) (fun a ha => ⟨ha.keep (fk rfl (fk rfl (fk rfl (fk rfl (fk rfl fn))))), h, u, (Nat.le_of_eq hC), (by omega), (m9.more (by omega)), (m12.more (by omega)), (Nat.zero_le _)⟩) ?_
      rintro t a v ht ⟨ha, h, u, cC, cW, hp, hqr, tle⟩
      refine cg_at ha ?_
      clear ha a
      have zv := u.size
      have q5 := hp.len
      have q6 := hp.cap
      have q7 := hqr.len
      have q8 := hqr.cap
      refine cg_seq ?_
      refine Zr ?_
      refine ZM ?_
      refine ZM ?_
      refine Za (y_lenM (el := 43) hp.len (by kernel_rfl) rfl rfl) ?_
      by_cases c19 : ((t : Nat) : Int) < ((planP (trAs Ls) i Ks).length : Int)
      ·refine Za (yb (decide_eq_true c19) (yi_lss rfl rfl rfl)) ?_
       refine Zn (zk5 1 7 8 13 19 rfl rfl rfl rfl rfl (zk1 109 rfl fn)) ?_
       refine cg_ct rfl ?_
       refine cg_skip ?_
       refine nx (zk5 1 7 8 13 19 rfl rfl rfl rfl rfl fn) ?_
       refine cg_seq ?_
       refine cg_block ?_
       refine cg_seq ?_
       have htn : t < (planP (trAs Ls) i Ks).length := by omega
       obtain ⟨ebz20, eoz20, elz20, eLz20, eAz20, eBz20, egz20, ehz20, ecz20⟩ := hp.at (t) (by have := hp.len; omega)
       have enz20 : eLz20 = atN (planP (trAs Ls) i Ks) (t) := (atN_some egz20).symm
       subst enz20
       obtain ⟨ebz21, eoz21, elz21, eLz21, eAz21, eBz21, egz21, ehz21, ecz21⟩ := hqr.at (t) (by have := hqr.len; omega)
       have enz21 : eLz21 = atN (planP (trAs (clearL Ls i)) i Ks) (t) := (atN_some egz21).symm
       subst enz21
       refine cg_held (by kernel_rfl) fun W22 eW22 => ?_
       have dW22 := below_drew _ _ eW22
       have zW22 := size_drew _ _ eW22
       clear eW22
       refine Zh 0 (fun q hq => y_move rfl rfl) ?_
       refine Zh 1 (fun q hq => y_move rfl rfl) ?_
       refine Zh 2 (fun q hq => yi_mul (r := 2) (s := i) rfl rfl rfl (by omega) (by omega)) ?_
       by_cases c23 : ((t : Nat) : Int) = (2 * i)
       ·refine Zh 3 (fun q hq => yb (nd_f c23) (yi_neq rfl rfl rfl)) ?_
        refine Zh 4 (fun q hq => y_move rfl rfl) ?_
        refine hg_skip 5 (by rfl) (want_f (dj := 116) (by rfl) (by kernel_rfl) rfl) rfl (by decide) (by kernel_rfl) (by kernel_rfl) (by kernel_rfl) (fun _ _ _ h => h) (Below.refl _ _) ?_
        refine hg_skip 6 (by rfl) (want_f (dj := 116) (by rfl) (by kernel_rfl) rfl) rfl (by decide) (by kernel_rfl) (by kernel_rfl) (by kernel_rfl) (fun _ _ _ h => h) (Below.refl _ _) ?_
        refine hg_skip 7 (by rfl) (want_f (dj := 116) (by rfl) (by kernel_rfl) rfl) rfl (by decide) (by kernel_rfl) (by kernel_rfl) (by kernel_rfl) (fun _ _ _ h => h) (Below.refl _ _) ?_
        refine hg_skip 8 (by rfl) (want_f (dj := 116) (by rfl) (by kernel_rfl) rfl) rfl (by decide) (by kernel_rfl) (by kernel_rfl) (by kernel_rfl) (fun _ _ _ h => h) (Below.refl _ _) ?_
        refine hg_skip 9 (by rfl) (want_f (dj := 116) (by rfl) (by kernel_rfl) rfl) rfl (by decide) (by kernel_rfl) (by kernel_rfl) (by kernel_rfl) (fun _ _ _ h => h) (Below.refl _ _) ?_
        refine hg_skip 10 (by rfl) (want_f (dj := 116) (by rfl) (by kernel_rfl) rfl) rfl (by decide) (by kernel_rfl) (by kernel_rfl) (by kernel_rfl) (fun _ _ _ h => h) (Below.refl _ _) ?_
        refine hg_skip 11 (by rfl) (want_f (dj := 116) (by rfl) (by kernel_rfl) rfl) rfl (by decide) (by kernel_rfl) (by kernel_rfl) (by kernel_rfl) (fun _ _ _ h => h) (Below.refl _ _) ?_
        refine hg_skip 12 (by rfl) (want_f (dj := 116) (by rfl) (by kernel_rfl) rfl) rfl (by decide) (by kernel_rfl) (by kernel_rfl) (by kernel_rfl) (fun _ _ _ h => h) (Below.refl _ _) ?_
        refine hg_skip1 13 (Below.refl _ _) (by rfl) (want_f (dj := 116) (by rfl) (by kernel_rfl) rfl) rfl (by decide) (by kernel_rfl) ?_
        refine hg_skip 14 (by rfl) (want_f (dj := 116) (by rfl) (by kernel_rfl) rfl) rfl (by decide) (by kernel_rfl) (by kernel_rfl) (by kernel_rfl) (fun _ _ _ h => h) (Below.refl _ _) ?_
        refine Zh 15 (fun q hq => y_pick false rfl rfl rfl) ?_
        refine hg_done (by kernel_rfl) ?_
        refine nx (zk5 1 7 8 13 19 rfl rfl rfl rfl rfl (zk1 127 rfl fn)) ?_
        refine cg_cf rfl ?_
        refine cg_skip ?_
        refine eg_block_norm ?_
        refine nx (zk5 1 7 8 13 19 rfl rfl rfl rfl rfl fn) ?_
        refine cg_region ?_
        refine ZM ?_
        refine Za (yv (congrArg nv (show ((t : Nat) : Int) + 1 = ((t + 1 : Nat) : Int) by omega)) (yi_add rfl rfl rfl (by omega) (by omega))) ?_
        refine ZA ?_
        refine lg_nil ?_
        have h := h.below (dW22.mono (by omega))
        have u := Un u dW22
        have hp := hp.below (dW22.mono (by omega))
        have hqr := hqr.below (dW22.mono (by omega))
        exact fun a ha => (show t < ((planP (trAs Ls) i Ks).length + 1) ∧ _ from ⟨(by omega), ha.keep (fk rfl (fk rfl (fk rfl (fk rfl (fk rfl fn))))), h, u, (by omega), cW, hp, hqr, (by omega)⟩)
       ·refine Zh 3 (fun q hq => yb (nd_t c23) (yi_neq rfl rfl rfl)) ?_
        refine Zh 4 (fun q hq => y_move rfl rfl) ?_
        refine Zht 5 116 (fun q hq => y_move rfl rfl) ?_
        refine Zht 6 116 (fun q hq => y_move rfl rfl) ?_
        have hp := hp.below (dW22.mono (by omega))
        obtain ⟨eb24, eo24, el24, eL24, eA24, eB24, eg24, eh24, ec24⟩ := hp.at (t) (by have := hp.len; omega)
        obtain rfl : (atN (planP (trAs Ls) i Ks) t) = eL24 := Option.some.inj (egz20.symm.trans eg24)
        refine Zht 7 116 (fun q hq => y_ixR (s := s9) (el := 43) (k := 8) (i := t) (iI := ((t : Nat) : Int)) eA24 (by kernel_rfl) (by kernel_rfl) (by omega) (by have := hp.len; omega) rfl rfl rfl) ?_
        refine Zht 8 116 (fun q hq => y_loadC (cs := el24.cs (atN (planP (trAs Ls) i Ks) t)) (fun k u e => (hq.cell (p := ⟨eb24, _, none⟩) (show eb24 < _ by omega)).trans (ec24 k u e)) (by kernel_rfl) (by kernel_rfl) rfl rfl) ?_
        refine Zht 9 116 (fun q hq => y_move rfl rfl) ?_
        refine Zht 10 116 (fun q hq => y_move rfl rfl) ?_
        have hqr := hqr.below (dW22.mono (by omega))
        obtain ⟨eb25, eo25, el25, eL25, eA25, eB25, eg25, eh25, ec25⟩ := hqr.at (t) (by have := hqr.len; omega)
        obtain rfl : (atN (planP (trAs (clearL Ls i)) i Ks) t) = eL25 := Option.some.inj (egz21.symm.trans eg25)
        refine Zht 11 116 (fun q hq => y_ixR (s := s12) (el := 43) (k := 8) (i := t) (iI := ((t : Nat) : Int)) eA25 (by kernel_rfl) (by kernel_rfl) (by omega) (by have := hqr.len; omega) rfl rfl rfl) ?_
        refine Zht 12 116 (fun q hq => y_loadC (cs := el25.cs (atN (planP (trAs (clearL Ls i)) i Ks) t)) (fun k u e => (hq.cell (p := ⟨eb25, _, none⟩) (show eb25 < _ by omega)).trans (ec25 k u e)) (by kernel_rfl) (by kernel_rfl) rfl rfl) ?_
        refine Zot 13 116 ?_
        refine Zct 116 (sameN_any (eh24.more (B' := W22.heap.size) (by omega)) (eh25.more (B' := W22.heap.size) (by omega)) (Nat.le_refl _)) rfl rfl ?_
        rintro u26 w26 ⟨e26, hw26⟩
        have zw26 := hw26.size
        obtain rfl : u26 = .bool true := e26.trans (congrArg Value.bool (decide_eq_true (show NdSame (atN (planP (trAs Ls) i Ks) t) (atN (planP (trAs (clearL Ls i)) i Ks) t) from (by rw [f7 t c23]; exact nd_same _))))
        refine hg_next hw26 ?_
        refine hg_up hw26 ?_
        refine Zht 14 116 (fun q hq => y_bnot rfl rfl) ?_
        refine Zh 15 (fun q hq => y_pick true rfl rfl rfl) ?_
        refine hg_done (by kernel_rfl) ?_
        refine nx (zk5 1 7 8 13 19 rfl rfl rfl rfl rfl (zk1 127 rfl fn)) ?_
        refine cg_cf rfl ?_
        refine cg_skip ?_
        refine eg_block_norm ?_
        refine nx (zk5 1 7 8 13 19 rfl rfl rfl rfl rfl fn) ?_
        refine cg_region ?_
        refine ZM ?_
        refine Za (yv (congrArg nv (show ((t : Nat) : Int) + 1 = ((t + 1 : Nat) : Int) by omega)) (yi_add rfl rfl rfl (by omega) (by omega))) ?_
        refine ZA ?_
        refine lg_nil ?_
        have h := h.below (dW22.mono (by omega))
        have h := h.below (hw26.mono (by omega))
        have u := Un u dW22
        have u := Un u hw26
        have hp := hp.below (hw26.mono (by omega))
        have hqr := hqr.below (hw26.mono (by omega))
        exact fun a ha => (show t < ((planP (trAs Ls) i Ks).length + 1) ∧ _ from ⟨(by omega), ha.keep (fk rfl (fk rfl (fk rfl (fk rfl (fk rfl fn))))), h, u, (by omega), cW, hp, hqr, (by omega)⟩)
      ·refine Za (yb (decide_eq_false c19) (yi_lss rfl rfl rfl)) ?_
       refine Zn (zk5 1 7 8 13 19 rfl rfl rfl rfl rfl (zk1 109 rfl fn)) ?_
       refine cg_cf rfl ?_
       refine cg_exit ?_
       refine eg_seq_exit ?_
       refine eg_seq_exit ?_
       refine eg_block_exit ?_
       refine nx (zk1 7 rfl fn) ?_
       refine Zr ?_
       refine ZM ?_
       refine ZA ?_
       refine Zn (zk1 6 rfl fn) ?_
       refine cg_ret ?_
       exact eg_ret_tmp rfl rfl ⟨_, rfl, rfl, u⟩
     ·refine Za (yb (nd_t c10) (yi_neq rfl rfl rfl)) ?_
      refine Zn (zk5 0 1 2 6 7 rfl rfl rfl rfl rfl (zk3 8 9 49 rfl rfl rfl fn)) ?_
      refine cg_ct rfl ?_
      refine Zr ?_
      refine ZM ?_
      refine ZA ?_
      refine Zn (zk5 0 1 2 7 8 rfl rfl rfl rfl rfl (zk2 9 6 rfl rfl fn)) ?_
      refine cg_ret ?_
      refine eg_seq_ret ?_
      have u := Un u hw9
      exact eg_ret_tmp rfl rfl ⟨_, rfl, rfl, u⟩
    ·refine Zct 34 (fewO_any (hk.more (B' := w6.heap.size) (by omega)) (Nat.le_refl _)) rfl rfl ?_
     rintro u27 w27 ⟨e27, hw27⟩
     have zw27 := hw27.size
     obtain rfl : u27 = .bool false := e27.trans (congrArg Value.bool (decide_eq_false c7))
     refine Zt 34 (y_bnot rfl rfl) ?_
     refine Za (y_pick false rfl rfl rfl) ?_
     refine Zn (zk5 0 1 2 6 7 rfl rfl rfl rfl rfl (zk1 38 rfl fn)) ?_
     refine cg_ct rfl ?_
     refine Zr ?_
     refine ZM ?_
     refine ZA ?_
     refine Zn (zk5 0 1 2 7 6 rfl rfl rfl rfl rfl fn) ?_
     refine cg_ret ?_
     refine eg_seq_ret ?_
     have u := Un u hw1
     have u := Un u hw3
     have u := Un u hw6
     have u := Un u hw27
     exact eg_ret_tmp rfl rfl ⟨_, rfl, rfl, u⟩
   ·refine Zct 29 (sane_any (h.more (B' := w3.heap.size) (by omega)) (Nat.le_refl _)) rfl rfl ?_
    rintro u28 w28 ⟨e28, hw28⟩
    have zw28 := hw28.size
    obtain rfl : u28 = .bool false := e28.trans (congrArg Value.bool (decide_eq_false c5))
    refine Zt 29 (y_bnot rfl rfl) ?_
    refine Za (y_pick false rfl rfl rfl) ?_
    refine ZM ?_
    refine Zf 34 ?_
    refine Zf 34 ?_
    refine Zf 34 ?_
    refine Za (y_pick true rfl rfl rfl) ?_
    refine Zn (zk5 0 1 2 6 7 rfl rfl rfl rfl rfl (zk1 38 rfl fn)) ?_
    refine cg_ct rfl ?_
    refine Zr ?_
    refine ZM ?_
    refine ZA ?_
    refine Zn (zk5 0 1 2 7 6 rfl rfl rfl rfl rfl fn) ?_
    refine cg_ret ?_
    refine eg_seq_ret ?_
    have u := Un u hw1
    have u := Un u hw3
    have u := Un u hw28
    exact eg_ret_tmp rfl rfl ⟨_, rfl, rfl, u⟩
 ·refine Zc (fewR_any (h.more (B' := w1.heap.size) (by omega)) (Nat.le_refl _)) rfl rfl ?_
  rintro u29 w29 ⟨e29, hw29⟩
  have zw29 := hw29.size
  obtain rfl : u29 = .bool false := e29.trans (congrArg Value.bool (decide_eq_false c2))
  refine Za (y_bnot rfl rfl) ?_
  refine ZM ?_
  refine Zf 24 ?_
  refine Zf 24 ?_
  refine Zf 24 ?_
  refine Za (y_pick true rfl rfl rfl) ?_
  refine ZM ?_
  refine Zf 29 ?_
  refine Zf 29 ?_
  refine Zf 29 ?_
  refine Za (y_pick true rfl rfl rfl) ?_
  refine ZM ?_
  refine Zf 34 ?_
  refine Zf 34 ?_
  refine Zf 34 ?_
  refine Za (y_pick true rfl rfl rfl) ?_
  refine Zn (zk5 0 1 2 6 7 rfl rfl rfl rfl rfl (zk1 38 rfl fn)) ?_
  refine cg_ct rfl ?_
  refine Zr ?_
  refine ZM ?_
  refine ZA ?_
  refine Zn (zk5 0 1 2 7 6 rfl rfl rfl rfl rfl fn) ?_
  refine cg_ret ?_
  refine eg_seq_ret ?_
  have u := Un u hw1
  have u := Un u hw29
  exact eg_ret_tmp rfl rfl ⟨_, rfl, rfl, u⟩
end Go.Proofs.YtfbnallapgokeaaGreatDoor
