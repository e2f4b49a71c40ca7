/-
  Which keys may be.
-/
import Derived.Test.YtfbnallapgokeaaGreatDoorChAwake
import Derived.Test.YtfbnallapgokeaaGreatDoorTrRef
namespace Go.Proofs.YtfbnallapgokeaaGreatDoor
open Go.ChangeShapes Go.WideShapes Go.ChangeAt Go.RowKit
set_option linter.unusedVariables false

set_option maxRecDepth 20000
theorem u8_small {t : Nat} (h : t < 7) : ov (toB (t : Int)) = .int .u8 (t : Int) := by
 rcases (by omega : t = 0 ∨ t = 1 ∨ t = 2 ∨ t = 3 ∨ t = 4 ∨ t = 5 ∨ t = 6) with rfl | rfl | rfl | rfl | rfl | rfl | rfl <;> kernel_rfl
/-- Keys for a way. -/
def keysG (n : Nat) : List (List Int) := (List.range n).map fun (j : Nat) => [(j : Int), 1]
theorem keysG_len (n : Nat) : (keysG n).length = n := by rw [keysG, List.length_map, List.length_range]
theorem keysG_s (n : Nat) : keysG (n + 1) = keysG n ++ [[((n : Nat) : Int), 1]] := by
 rw [keysG, List.range_succ, List.map_append]
 rfl
theorem keysG_get {n j : Nat} (h : j < n) : (keysG n).getD j [] = [(j : Int), 1] := by
 rw [List.getD_eq_getElem?_getD, keysG, List.getElem?_map, List.getElem?_range h]
 rfl
theorem keyE_two (a b : Int) : keyE [a, b] = 0 := rfl
theorem keysG_ok (n : Nat) : keysE (keysG n) = 0 := keysE_none fun j hj => by
 rw [keysG_len] at hj
 rw [keysG_get hj, keyE_two]
theorem keysG_set {n a : Nat} {b : List Int} (h : a < n) (hb : ¬ keyE b = 0) : keysE ((keysG n).set a b) = keyE b := by
 have e : ((keysG n).set a b).getD a [] = b := by
  rw [List.getD_eq_getElem?_getD, List.getElem?_set_self (by rw [keysG_len]; exact h)]
  rfl
 have := keysE_first (ks := (keysG n).set a b) (t := a) (fun j hj => by
  rw [List.getD_eq_getElem?_getD, List.getElem?_set_ne (by omega), ← List.getD_eq_getElem?_getD, keysG_get (by omega), keyE_two]) (by rw [List.length_set, keysG_len]; exact h) (by rw [e]; exact hb)
 rw [this, e]
section
variable {A : List Nd} {i : Int} (hi : 0 ≤ i ∧ i < leavesA A)
include hi
theorem plan_keys : planE A i (keysG (forkL A i).length) = 0 := by rw [planE_keys hi (keysG_len _), keysG_ok]
theorem plan_more : planE A i (keysG (forkL A i).length ++ [[1]]) = 11 := planE_path hi (by rw [List.length_append, keysG_len]; exact fun q => by simp at q)
theorem plan_less (hp : 0 < (forkL A i).length) : planE A i ((keysG (forkL A i).length).drop 1) = 11 := planE_path hi (by rw [List.length_drop, keysG_len]; omega)
theorem plan_bad5 {m : Nat} (hp : 0 < (forkL A i).length) : planE A i ((keysG (forkL A i).length).set (m % (forkL A i).length) []) = 5 := by
 rw [planE_keys hi (by rw [List.length_set, keysG_len]), keysG_set (Nat.mod_lt _ hp) (by decide)]
 rfl
theorem plan_bad4 {m : Nat} (hp : 0 < (forkL A i).length) : planE A i (((keysG (forkL A i).length).set (m % (forkL A i).length) []).set (m % (forkL A i).length) (rd (fun _ => 0) 201)) = 4 := by
 have e : keyE (rd (fun _ => 0) 201) = 4 := by
  unfold keyE
  rw [rd_len]
  rfl
 rw [List.set_set, planE_keys hi (by rw [List.length_set, keysG_len]), keysG_set (Nat.mod_lt _ hp) (by rw [e]; decide), e]
end
theorem plan_hlen {A : List Nd} {i : Int} {ks : List (List Int)} (h : planE A i ks = 0) : (0 < (forkL A i).length → (planH A i ks).length = 32) ∧ ((forkL A i).length = 0 → planH A i ks = []) := by
 obtain ⟨_, hl, _⟩ := planE_ok h
 have hz := planZ_len hl
 rw [(planP_ok h).2]
 cases hZ : planZ A i ks with
 | nil =>
  rw [hZ] at hz
  exact ⟨fun q => absurd hz (by simp only [List.length_nil]; omega), fun _ => rfl⟩
 | cons p ps =>
  rw [hZ] at hz
  exact ⟨fun _ => gives_len _ _ _, fun q => absurd hz (by simp only [List.length_cons]; omega)⟩
set_option maxHeartbeats 4000000 in
theorem chainKeys_any {W : World} {s : SlV} {Ls : List Nd} (h : RwNd W W.heap.size s Ls) (i k : Int) (b : Bool) (rg : Tt W) : Calls Tryz.prog 7 #[s.v, nv i, nv k, .bool b] W fun e W' => ∃ v, e = .returned v ∧ v = .bool true ∧ Below W.heap.size W W' := by
 refine calls_cg (n := 169) Tryz.func7 rfl Tryz.ntmps7 (by simp) ?_
 show CG _ _ _ [(0, s.v), (1, nv i), (2, nv k), (3, .bool b)] _ _
 have u := Below.refl W.heap.size W
 have q1 := h.len
 have q2 := h.cap
 have qwl : ((forkL (trAs Ls) i).map Prod.fst).length = (forkL (trAs Ls) i).length := List.length_map ..
 refine Zr ?_
 refine ZA ?_
 refine Zn (zk5 0 1 2 3 8 rfl rfl rfl rfl rfl fn) ?_
 refine Zr ?_
 refine Zc (awakeC_any _ (Tt.up u rg)) rfl rfl ?_
 rintro _ w1 ⟨rfl, hw1⟩
 have zw1 := hw1.size
 refine ZA ?_
 refine Zn (zk5 0 1 2 3 8 rfl rfl rfl rfl rfl (zk1 9 rfl fn)) ?_
 refine cg_seq ?_
 refine Zr ?_
 refine ZM ?_
 have h := h.below (hw1.mono (by omega))
 by_cases c2 : trFew Ls
 ·refine Zc (fewR_any (h.more (B' := w1.heap.size) (by omega)) (Nat.le_refl _)) rfl rfl ?_
  rintro u3 w3 ⟨e3, hw3⟩
  have zw3 := hw3.size
  obtain rfl : u3 = .bool true := e3.trans (congrArg Value.bool (decide_eq_true c2))
  refine Za (y_bnot rfl rfl) ?_
  refine ZM ?_
  refine Zt 33 (y_move rfl rfl) ?_
  have h := h.below (hw3.mono (by omega))
  refine Zt 33 (y_lenM (el := 43) h.len (by kernel_rfl) rfl rfl) ?_
  by_cases c4 : 20 < (Ls.length : Int)
  ·refine Zt 33 (yb (decide_eq_true c4) (yi_gtr rfl rfl rfl)) ?_
   refine Za (y_pick false rfl rfl rfl) ?_
   refine ZM ?_
   refine Zf 38 ?_
   refine Zf 38 ?_
   refine Zf 38 ?_
   refine Za (y_pick true rfl rfl rfl) ?_
   refine ZM ?_
   refine Zf 43 ?_
   refine Zf 43 ?_
   refine Za (y_pick true rfl rfl rfl) ?_
   refine ZM ?_
   refine Zf 47 ?_
   refine Zf 47 ?_
   refine Zf 47 ?_
   refine Zf 47 ?_
   refine Za (y_pick true rfl rfl rfl) ?_
   refine Zn (zk5 0 1 2 3 8 rfl rfl rfl rfl rfl (zk2 9 52 rfl rfl fn)) ?_
   refine cg_ct rfl ?_
   refine Zr ?_
   refine ZM ?_
   refine ZA ?_
   refine Zn (zk5 0 1 2 3 9 rfl rfl rfl rfl rfl (zk1 8 rfl fn)) ?_
   refine cg_ret ?_
   refine eg_seq_ret ?_
   have u := Un u hw1
   have u := Un u hw3
   exact eg_ret_tmp rfl rfl ⟨_, rfl, rfl, u⟩
  ·refine Zt 33 (yb (decide_eq_false c4) (yi_gtr rfl rfl rfl)) ?_
   refine Za (y_pick false rfl rfl rfl) ?_
   refine ZM ?_
   refine Zt 38 (y_move rfl rfl) ?_
   by_cases c5 : trIs Ls
   ·have htr := c5
    have htl := trIs_le htr
    have hta := trAs_ok htr
    refine Zct 38 (sane_any (h.more (B' := w3.heap.size) (by omega)) (Nat.le_refl _)) rfl rfl ?_
    rintro u6 w6 ⟨e6, hw6⟩
    have zw6 := hw6.size
    obtain rfl : u6 = .bool true := e6.trans (congrArg Value.bool (decide_eq_true c5))
    refine Zt 38 (y_bnot rfl rfl) ?_
    refine Za (y_pick false rfl rfl rfl) ?_
    refine ZM ?_
    refine Zt 43 (y_move rfl rfl) ?_
    by_cases c7 : i < 0
    ·refine Zt 43 (yb (decide_eq_true c7) (yi_lss rfl rfl rfl)) ?_
     refine Za (y_pick false rfl rfl rfl) ?_
     refine ZM ?_
     refine Zf 47 ?_
     refine Zf 47 ?_
     refine Zf 47 ?_
     refine Zf 47 ?_
     refine Za (y_pick true rfl rfl rfl) ?_
     refine Zn (zk5 0 1 2 3 8 rfl rfl rfl rfl rfl (zk2 9 52 rfl rfl fn)) ?_
     refine cg_ct rfl ?_
     refine Zr ?_
     refine ZM ?_
     refine ZA ?_
     refine Zn (zk5 0 1 2 3 9 rfl rfl rfl rfl rfl (zk1 8 rfl fn)) ?_
     refine cg_ret ?_
     refine eg_seq_ret ?_
     have u := Un u hw1
     have u := Un u hw3
     have u := Un u hw6
     exact eg_ret_tmp rfl rfl ⟨_, rfl, rfl, u⟩
    ·refine Zt 43 (yb (decide_eq_false c7) (yi_lss rfl rfl rfl)) ?_
     refine Za (y_pick false rfl rfl rfl) ?_
     refine ZM ?_
     refine Zt 47 (y_move rfl rfl) ?_
     refine Zt 47 (y_move rfl rfl) ?_
     have h := h.below (hw6.mono (by omega))
     refine Zct 47 (leavesT_any (h.more (B' := w6.heap.size) (by omega)) (Nat.le_refl _)) rfl rfl ?_
     rintro _ w8 ⟨rfl, hw8⟩
     have zw8 := hw8.size
     by_cases c9 : ((leavesA (trAs Ls) : Nat) : Int) ≤ i
     ·refine Zt 47 (yb (decide_eq_true c9) (yi_geq rfl rfl rfl)) ?_
      refine Za (y_pick false rfl rfl rfl) ?_
      refine Zn (zk5 0 1 2 3 8 rfl rfl rfl rfl rfl (zk2 9 52 rfl rfl fn)) ?_
      refine cg_ct rfl ?_
      refine Zr ?_
      refine ZM ?_
      refine ZA ?_
      refine Zn (zk5 0 1 2 3 9 rfl rfl rfl rfl rfl (zk1 8 rfl fn)) ?_
      refine cg_ret ?_
      refine eg_seq_ret ?_
      have u := Un u hw1
      have u := Un u hw3
      have u := Un u hw6
      have u := Un u hw8
      exact eg_ret_tmp rfl rfl ⟨_, rfl, rfl, u⟩
     ·have hi0 : 0 ≤ i ∧ i < leavesA (trAs Ls) := ⟨by omega, by omega⟩
      have fl6 := fork_len (trAs Ls) i
      have hE := plan_keys hi0
      have hH := plan_hlen hE
      refine Zt 47 (yb (decide_eq_false c9) (yi_geq rfl rfl rfl)) ?_
      refine Za (y_pick false rfl rfl rfl) ?_
      refine Zn (zk5 0 1 2 3 8 rfl rfl rfl rfl rfl (zk2 9 52 rfl rfl fn)) ?_
      refine cg_cf rfl ?_
      refine cg_skip ?_
      refine nx (zk5 0 1 2 3 8 rfl rfl rfl rfl rfl (zk1 9 rfl fn)) ?_
      refine Zr ?_
      refine ZM ?_
      refine ZM ?_
      have h := h.below (hw8.mono (by omega))
      have u := Un u hw1
      have u := Un u hw3
      have u := Un u hw6
      have u := Un u hw8
      refine Zc (filter_any (h.more (B' := w8.heap.size) (by omega)) i (Nat.le_refl _) (Tt.up u rg).b) rfl rfl ?_
      rintro _ w10 ⟨s10, rfl, m10, hw10⟩
      have zw10 := hw10.size
      refine ZA ?_
      refine Zn (zk5 0 1 2 3 8 rfl rfl rfl rfl rfl (zk2 9 10 rfl rfl fn)) ?_
      refine Zr ?_
      refine ZA ?_
      refine Zn (zk5 0 1 2 3 8 rfl rfl rfl rfl rfl (zk3 9 10 11 rfl rfl rfl fn)) ?_
      refine cg_seq ?_
      refine Zr ?_
      refine ZA ?_
      refine Zn (zk5 0 1 2 3 8 rfl rfl rfl rfl rfl (zk3 9 10 11 rfl rfl rfl (zk1 12 rfl fn))) ?_
      refine cg_block ?_
      obtain ⟨C, hC⟩ : ∃ q, q = w10.heap.size := ⟨_, rfl⟩
      have h := h.below (hw10.mono (by omega))
      have u := Un u hw10
      refine cg_loopE (fun t a v => ∃ (qr : SlV), Holds 169 [(0, s.v), (1, nv i), (2, nv k), (3, .bool b), (9, .bool true), (10, s10.v), (11, qr.v), (12, nv ((t : Nat) : Int))] a ∧ RwNd v W.heap.size s Ls ∧ Below W.heap.size W v ∧ C ≤ v.heap.size ∧ W.heap.size ≤ C ∧ SlN v C s10 ((forkL (trAs Ls) i).map Prod.fst) ∧ OwnOc v C qr.v (keysG t) ∧ t ≤ (forkL (trAs Ls) i).length) ((forkL (trAs Ls) i).length + 1) (fun a ha => ⟨nilS, ha.keep (fk rfl (fk rfl (fk rfl (fk rfl (fk rfl (fk rfl (fk rfl (fk rfl fn)))))))), h, u, (Nat.le_of_eq hC), (by omega), (m10.more (by omega)), (by rw [show keysG 0 = [] from rfl]; exact OwnOc.nil _ _), (Nat.zero_le _)⟩) ?_
      rintro t a v ht ⟨qr, ha, h, u, cC, cW, hw, g0, tle⟩
      refine cg_at ha ?_
      clear ha a
      have zv := u.size
      have q1 := h.len
      have q2 := h.cap
      have q7 := hw.len
      refine cg_seq ?_
      refine Zr ?_
      refine ZM ?_
      refine ZM ?_
      refine Za (y_lenM (el := 3) hw.len (by kernel_rfl) rfl rfl) ?_
      by_cases c11 : ((t : Nat) : Int) < (((forkL (trAs Ls) i).map Prod.fst).length : Int)
      ·refine Za (yb (decide_eq_true c11) (yi_lss rfl rfl rfl)) ?_
       refine Zn (zk5 0 1 2 3 9 rfl rfl rfl rfl rfl (zk3 10 11 12 rfl rfl rfl (zk1 60 rfl fn))) ?_
       refine cg_ct rfl ?_
       refine cg_skip ?_
       refine nx (zk5 0 1 2 3 9 rfl rfl rfl rfl rfl (zk3 10 11 12 rfl rfl rfl fn)) ?_
       refine cg_seq ?_
       refine cg_block ?_
       refine cg_region ?_
       refine ZM ?_
       refine ZM ?_
       refine Za (yv (u8_small (t := t) (by omega)) (y_to8 (by kernel_rfl) rfl rfl)) ?_
       refine lg_bslice (z := .int .u8 0) (cs := #[.int .u8 ((t : Nat) : Int), .int .u8 1]) huo24 (by kernel_rfl) (by decide) (by decide) rfl rfl (by kernel_rfl) rfl rfl (by decide) fun b12 w12 n12 => ?_
       have r12 := n12.row
       have k12 := n12.blk
       have z12 := n12.size
       have m12 : Sl w12 (b12 + 1) ⟨some ⟨b12, 0, none⟩, 2, 2⟩ [((t : Nat) : Int), 1] := ⟨Nat.le_refl _, of_decide_eq_true (by kernel_rfl), oct_lit r12 rfl (fun z hz => by simp only [List.mem_cons, List.not_mem_nil, or_false] at hz; omega)⟩
       have hh12 : Hs w12 (⟨some ⟨b12, 0, none⟩, 2, 2⟩ : SlV) ([((t : Nat) : Int), 1] : List Int) := Hs.lit m12 (by omega) r12
       refine lg_bslice (el := 27) (z := .slice none 0 0) (cs := #[(⟨some ⟨b12, 0, none⟩, 2, 2⟩ : SlV).v]) (by kernel_rfl) (by kernel_rfl) (by decide) (by decide) rfl rfl (by kernel_rfl) rfl rfl (by decide) fun b13 w13 n13 => ?_
       have r13 := n13.row
       have k13 := n13.blk
       have z13 := n13.size
       have lt13 : b13 < w13.heap.size := by omega
       have g0 := g0.below n12.below
       have g0 := g0.below n13.below
       have hh12 := hh12.below n13.below
       have oo14 := g0
       refine lg_appOc (base := C) oo14 hh12 r13 (by rw [keysG_len]; omega) (by omega) (want_none (by rfl)) rfl rfl rfl rfl rfl (by decide) fun s14 w14 g14 k14 l14 z14 => ?_
       refine ZA ?_
       refine lg_nil ?_
       refine eg_block_norm ?_
       refine nx (zk5 0 1 2 3 9 rfl rfl rfl rfl rfl (zk3 10 12 11 rfl rfl rfl fn)) ?_
       refine cg_region ?_
       refine ZM ?_
       refine Za (yv (congrArg nv (show ((t : Nat) : Int) + 1 = ((t + 1 : Nat) : Int) by omega)) (yi_add rfl rfl rfl (by omega) (by omega))) ?_
       refine ZA ?_
       refine lg_nil ?_
       have h := h.below (n12.below.mono (by omega))
       have h := h.below (n13.below.mono (by omega))
       have h := h.below (l14.mono (by omega))
       have u := Un u n12.below
       have u := Un u n13.below
       have u := u.trans (l14.mono (by omega))
       have hw := hw.below (n12.below.mono (by omega))
       have hw := hw.below (n13.below.mono (by omega))
       have hw := hw.below (l14.mono (by omega))
       exact fun a ha => (show t < ((forkL (trAs Ls) i).length + 1) ∧ _ from ⟨(by omega), s14, ha.keep (fk rfl (fk rfl (fk rfl (fk rfl (fk rfl (fk rfl (fk rfl (fk rfl fn)))))))), h, u, (by omega), cW, hw, (g14.cast (keysG_s t).symm), (by omega)⟩)
      ·refine Za (yb (decide_eq_false c11) (yi_lss rfl rfl rfl)) ?_
       refine Zn (zk5 0 1 2 3 9 rfl rfl rfl rfl rfl (zk3 10 11 12 rfl rfl rfl (zk1 60 rfl fn))) ?_
       refine cg_cf rfl ?_
       refine cg_exit ?_
       refine eg_seq_exit ?_
       refine eg_seq_exit ?_
       refine eg_block_exit ?_
       refine nx (zk5 0 1 2 3 9 rfl rfl rfl rfl rfl (zk2 10 11 rfl rfl fn)) ?_
       refine cg_seq ?_
       obtain rfl : t = (forkL (trAs Ls) i).length := by omega
       refine cg_region ?_
       refine ZM ?_
       refine ZM ?_
       refine ZM ?_
       refine Zc (plan_any (h.more (B' := v.heap.size) (by omega)) i (g0.row.more (B' := v.heap.size) (by omega)) (Nat.le_refl _) (Tt.up u rg)) rfl rfl ?_
       rintro _ w15 ⟨s15, r15, rfl, m15, n15, hw15⟩
       have zw15 := hw15.size
       have pl15 := planH_le (trAs Ls) i (keysG (forkL (trAs Ls) i).length)
       refine ZM ?_
       refine Za (y_extract rfl rfl rfl) ?_
       refine Za (y_extract rfl rfl rfl) ?_
       refine Za (y_extract rfl rfl rfl) ?_
       refine ZA ?_
       refine ZA ?_
       refine ZA ?_
       refine Zn (zk5 0 1 2 3 9 rfl rfl rfl rfl rfl (zk3 10 11 14 rfl rfl rfl (zk1 15 rfl fn))) ?_
       refine cg_seq ?_
       refine Zr ?_
       refine ZM ?_
       refine Za (yb (nd_f hE) (yi_neq rfl rfl rfl)) ?_
       refine ZM ?_
       refine Zt 79 (y_move rfl rfl) ?_
       refine Zt 79 (y_lenS (el := 5) n15 (by kernel_rfl) rfl rfl) ?_
       by_cases c16 : ((planH (trAs Ls) i (keysG (forkL (trAs Ls) i).length)).length : Int) = 32
       ·have kl6 := keysG_len (forkL (trAs Ls) i).length
        have hpos : 0 < (forkL (trAs Ls) i).length := Nat.pos_of_ne_zero fun q => by have z := hH.2 q; rw [z] at c16; exact absurd c16 (by decide)
        refine Zt 79 (yb (nd_f c16) (yi_neq rfl rfl rfl)) ?_
        refine Zt 79 (y_move rfl rfl) ?_
        refine Zf 83 ?_
        refine Zf 83 ?_
        refine Zf 83 ?_
        refine Zt 79 (y_pick false rfl rfl rfl) ?_
        refine Za (y_pick false rfl rfl rfl) ?_
        refine ZM ?_
        refine Zt 89 (y_move rfl rfl) ?_
        refine Zt 89 (y_lenS (el := 5) n15 (by kernel_rfl) rfl rfl) ?_
        refine Zt 89 (yb (nd_t (show ¬ (((planH (trAs Ls) i (keysG (forkL (trAs Ls) i).length)).length : Int) = 0) from (by omega))) (yi_neq rfl rfl rfl)) ?_
        refine Zt 89 (y_move rfl rfl) ?_
        refine Zt 93 (y_move rfl rfl) ?_
        have hw := hw.below (hw15.mono (by omega))
        refine Zt 93 (y_lenM (el := 3) hw.len (by kernel_rfl) rfl rfl) ?_
        refine Zt 93 (yb (decide_eq_false (show ¬ ((((forkL (trAs Ls) i).map Prod.fst).length : Int) = 0) from (by rw [qwl]; exact fun q => by have z := hH.2 (by omega); rw [z] at c16; exact absurd c16 (by decide)))) (yi_eql rfl rfl rfl)) ?_
        refine Zt 89 (y_pick true rfl rfl rfl) ?_
        refine Za (y_pick false rfl rfl rfl) ?_
        refine Zn (zk5 0 1 2 3 9 rfl rfl rfl rfl rfl (zk3 10 11 98 rfl rfl rfl fn)) ?_
        refine cg_cf rfl ?_
        refine cg_skip ?_
        refine nx (zk5 0 1 2 3 9 rfl rfl rfl rfl rfl (zk2 10 11 rfl rfl fn)) ?_
        refine Zr ?_
        have g0 := g0.below hw15
        have g0S := g0
        have g0Su := Below.refl w15.heap.size w15
        obtain ⟨bs18, hbs18⟩ : ∃ q, q = w15.heap.size := ⟨_, rfl⟩
        refine lg_bs0Oc (want_none (by rfl)) rfl rfl (by decide) fun b17 w17 g17 l17 => ?_
        rw [← hbs18] at g17
        have z17 := l17.size
        refine ZM ?_
        have g0 := g0.below l17
        have oo19 := g17
        refine lg_appOE (base := bs18) oo19 g0 (by rw [keysG_len]; omega) (by omega) (want_none (by rfl)) rfl rfl rfl rfl rfl (by decide) fun s19 w19 g19 k19 l19 z19 => ?_
        refine ZA ?_
        refine Zn (zk5 0 1 2 3 9 rfl rfl rfl rfl rfl (zk3 10 11 16 rfl rfl rfl fn)) ?_
        refine Zr ?_
        refine ZM ?_
        refine lg_bslice (z := .int .u8 0) (cs := #[.int .u8 1]) huo24 (by kernel_rfl) (by decide) (by decide) rfl rfl (by kernel_rfl) rfl rfl (by decide) fun b20 w20 n20 => ?_
        have r20 := n20.row
        have k20 := n20.blk
        have z20 := n20.size
        have m20 : Sl w20 (b20 + 1) ⟨some ⟨b20, 0, none⟩, 1, 1⟩ [1] := ⟨Nat.le_refl _, of_decide_eq_true (by kernel_rfl), oct_lit r20 rfl (fun z hz => by simp only [List.mem_cons, List.not_mem_nil, or_false] at hz; omega)⟩
        have hh20 : Hs w20 (⟨some ⟨b20, 0, none⟩, 1, 1⟩ : SlV) ([1] : List Int) := Hs.lit m20 (by omega) r20
        refine lg_bslice (el := 27) (z := .slice none 0 0) (cs := #[(⟨some ⟨b20, 0, none⟩, 1, 1⟩ : SlV).v]) (by kernel_rfl) (by kernel_rfl) (by decide) (by decide) rfl rfl (by kernel_rfl) rfl rfl (by decide) fun b21 w21 n21 => ?_
        have r21 := n21.row
        have k21 := n21.blk
        have z21 := n21.size
        have lt21 : b21 < w21.heap.size := by omega
        have g19 := g19.below n20.below
        have g19 := g19.below n21.below
        have hh20 := hh20.below n21.below
        have oo22 := g19
        refine lg_appOc (base := bs18) oo22 hh20 r21 (by rw [keysG_len]; omega) (by omega) (want_none (by rfl)) rfl rfl rfl rfl rfl (by decide) fun s22 w22 g22 k22 l22 z22 => ?_
        refine ZA ?_
        refine Zn (zk5 0 1 2 3 9 rfl rfl rfl rfl rfl (zk3 10 11 16 rfl rfl rfl fn)) ?_
        refine Zr ?_
        refine ZM ?_
        refine ZM ?_
        refine ZM ?_
        have h := h.below (hw15.mono (by omega))
        have h := h.below (l17.mono (by omega))
        have h := h.below (l19.mono (by omega))
        have h := h.below (n20.below.mono (by omega))
        have h := h.below (n21.below.mono (by omega))
        have h := h.below (l22.mono (by omega))
        have u := Un u hw15
        have u := Un u l17
        have u := u.trans (l19.mono (by omega))
        have u := Un u n20.below
        have u := Un u n21.below
        have u := u.trans (l22.mono (by omega))
        refine Zc (plan_any (h.more (B' := w22.heap.size) (by omega)) i (g22.row.more (B' := w22.heap.size) (by omega)) (Nat.le_refl _) (Tt.up u rg)) rfl rfl ?_
        rintro _ w23 ⟨s23, r23, rfl, m23, n23, hw23⟩
        have zw23 := hw23.size
        have pl23 := planH_le (trAs Ls) i ((keysG (forkL (trAs Ls) i).length) ++ [([1] : List Int)])
        refine ZM ?_
        refine Za (y_extract rfl rfl rfl) ?_
        refine Za (y_extract rfl rfl rfl) ?_
        refine Za (y_extract rfl rfl rfl) ?_
        refine ZA ?_
        refine ZA ?_
        refine ZA ?_
        refine Zn (zk5 0 1 2 3 9 rfl rfl rfl rfl rfl (zk3 10 11 19 rfl rfl rfl fn)) ?_
        refine cg_seq ?_
        refine Zr ?_
        refine ZM ?_
        have hw := hw.below (l17.mono (by omega))
        have hw := hw.below (l19.mono (by omega))
        have hw := hw.below (n20.below.mono (by omega))
        have hw := hw.below (n21.below.mono (by omega))
        have hw := hw.below (l22.mono (by omega))
        have hw := hw.below (hw23.mono (by omega))
        refine Za (y_lenM (el := 3) hw.len (by kernel_rfl) rfl rfl) ?_
        refine Za (yb (decide_eq_false (show ¬ ((((forkL (trAs Ls) i).map Prod.fst).length : Int) = 0) from (by rw [qwl]; exact fun q => by have z := hH.2 (by omega); rw [z] at c16; exact absurd c16 (by decide)))) (yi_eql rfl rfl rfl)) ?_
        refine Zn (zk5 0 1 2 3 9 rfl rfl rfl rfl rfl (zk3 11 19 116 rfl rfl rfl fn)) ?_
        refine cg_cf rfl ?_
        refine cg_skip ?_
        refine nx (zk5 0 1 2 3 9 rfl rfl rfl rfl rfl (zk2 11 19 rfl rfl fn)) ?_
        refine Zr ?_
        refine ZM ?_
        refine ZM ?_
        refine ZM ?_
        have g0Su := g0Su.trans (l17.mono g0Su.size)
        have g0Su := g0Su.trans (l19.mono (by omega))
        have g0Su := g0Su.trans (n20.below.mono g0Su.size)
        have g0Su := g0Su.trans (n21.below.mono g0Su.size)
        have g0Su := g0Su.trans (l22.mono (by omega))
        have g0Su := g0Su.trans (hw23.mono g0Su.size)
        have g0 := g0S.below g0Su
        refine Za (y_cutO_l (s := qr) 1 rfl (by have q1 := g0.row.len; have q2 := g0.row.cap; rw [keysG_len] at q1; omega) (by have q1 := g0.row.len; have q2 := g0.row.cap; rw [keysG_len] at q1; omega) rfl rfl rfl) ?_
        have h := h.below (hw23.mono (by omega))
        have u := Un u hw23
        refine Zc (plan_any (h.more (B' := w23.heap.size) (by omega)) i ((g0.row.tail (l := 1) (by have q1 := g0.row.len; have q2 := g0.row.cap; rw [keysG_len] at q1; omega)).more (B' := w23.heap.size) (by omega)) (Nat.le_refl _) (Tt.up u rg)) rfl rfl ?_
        rintro _ w24 ⟨s24, r24, rfl, m24, n24, hw24⟩
        have zw24 := hw24.size
        have pl24 := planH_le (trAs Ls) i ((keysG (forkL (trAs Ls) i).length).drop 1)
        refine ZM ?_
        refine Za (y_extract rfl rfl rfl) ?_
        refine Za (y_extract rfl rfl rfl) ?_
        refine Za (y_extract rfl rfl rfl) ?_
        refine ZA ?_
        refine ZA ?_
        refine ZA ?_
        refine Zn (zk5 0 1 2 3 9 rfl rfl rfl rfl rfl (zk3 11 19 22 rfl rfl rfl fn)) ?_
        refine Zr ?_
        have g0 := g0.below hw24
        have g0S := g0
        have g0Su := Below.refl w24.heap.size w24
        obtain ⟨bs26, hbs26⟩ : ∃ q, q = w24.heap.size := ⟨_, rfl⟩
        refine lg_bs0Oc (want_none (by rfl)) rfl rfl (by decide) fun b25 w25 g25 l25 => ?_
        rw [← hbs26] at g25
        have z25 := l25.size
        refine ZM ?_
        have g0 := g0.below l25
        have oo27 := g25
        refine lg_appOE (base := bs26) oo27 g0 (by rw [keysG_len]; omega) (by omega) (want_none (by rfl)) rfl rfl rfl rfl rfl (by decide) fun s27 w27 g27 k27 l27 z27 => ?_
        refine ZA ?_
        refine Zn (zk5 0 1 2 3 9 rfl rfl rfl rfl rfl (zk3 19 22 23 rfl rfl rfl fn)) ?_
        refine Zr ?_
        refine ZM ?_
        refine Za (y_maskW 65535 (by decide) rfl rfl rfl) ?_
        refine ZM ?_
        refine Za (y_lenM (el := 27) g27.row.len (by kernel_rfl) rfl rfl) ?_
        refine Za (yv (congrArg nv (show (((maskK k 65535) : Nat) : Int) % (((keysG (forkL (trAs Ls) i).length).length : Nat) : Int) = ((((maskK k 65535) % (forkL (trAs Ls) i).length) : Nat) : Int) by rw [keysG_len]; exact (Int.natCast_emod _ _).symm)) (yi_rem rfl rfl rfl (by omega) (by omega))) ?_
        refine ZA ?_
        refine Zn (zk5 0 1 3 9 19 rfl rfl rfl rfl rfl (zk3 22 23 24 rfl rfl rfl fn)) ?_
        refine cg_seq ?_
        have hat : ((maskK k 65535) % (forkL (trAs Ls) i).length) < (forkL (trAs Ls) i).length := Nat.mod_lt _ hpos
        refine cg_region ?_
        refine ZM ?_
        refine ZM ?_
        obtain ⟨gb28, gA28, gl28, gu28⟩ := g27.addr (i := (((maskK k 65535) % (forkL (trAs Ls) i).length))) (by rw [keysG_len]; omega)
        refine Za (y_ixR (s := s27) (el := 27) (k := 1) (i := (((maskK k 65535) % (forkL (trAs Ls) i).length))) (iI := ((((maskK k 65535) % (forkL (trAs Ls) i).length) : Nat) : Int)) gA28 (by kernel_rfl) (by kernel_rfl) (by omega) (by have q1 := g27.row.len; have q2 := (); rw [keysG_len] at q1; omega) rfl rfl rfl) ?_
        refine lg_stO (i := (((maskK k 65535) % (forkL (trAs Ls) i).length))) (K := nilS.v) g27 (Hs.nil _) (by rw [keysG_len]; omega) (want_none (by rfl)) rfl (fun g e => by rw [gA28] at e; cases e; rfl) rfl rfl fun g29 w29 new29 gb29 st29 ow29 => ?_
        have z29 := st29.size
        refine Zn (zk5 0 1 3 9 19 rfl rfl rfl rfl rfl (zk3 22 23 24 rfl rfl rfl fn)) ?_
        refine Zr ?_
        refine ZA ?_
        refine Zn (zk5 0 1 3 9 19 rfl rfl rfl rfl rfl (zk3 22 23 24 rfl rfl rfl (zk1 25 rfl fn))) ?_
        refine cg_seq ?_
        refine Zr ?_
        cases b
        ·refine ZM ?_
         refine Zn (zk5 0 1 9 19 22 rfl rfl rfl rfl rfl (zk3 23 24 25 rfl rfl rfl (zk1 142 rfl fn))) ?_
         refine cg_cf rfl ?_
         refine cg_skip ?_
         refine nx (zk5 0 1 9 19 22 rfl rfl rfl rfl rfl (zk2 23 25 rfl rfl fn)) ?_
         refine Zr ?_
         refine ZM ?_
         refine ZM ?_
         refine ZM ?_
         have h := h.below (hw24.mono (by omega))
         have h := h.below (l25.mono (by omega))
         have h := h.below (l27.mono (by omega))
         have h := h.below (st29.below _ (by omega))
         have u := Un u hw24
         have u := Un u l25
         have u := u.trans (l27.mono (by omega))
         have u := u.trans (st29.below _ (by omega))
         refine Zc (plan_any (h.more (B' := w29.heap.size) (by omega)) i (ow29.row.more (B' := w29.heap.size) (by omega)) (Nat.le_refl _) (Tt.up u rg)) rfl rfl ?_
         rintro _ w30 ⟨s30, r30, rfl, m30, n30, hw30⟩
         have zw30 := hw30.size
         have pl30 := planH_le (trAs Ls) i ((keysG (forkL (trAs Ls) i).length).set (((maskK k 65535) % (forkL (trAs Ls) i).length)) [])
         refine ZM ?_
         refine Za (y_extract rfl rfl rfl) ?_
         refine Za (y_extract rfl rfl rfl) ?_
         refine Za (y_extract rfl rfl rfl) ?_
         refine ZA ?_
         refine ZA ?_
         refine ZA ?_
         refine Zn (zk5 9 19 22 25 28 rfl rfl rfl rfl rfl fn) ?_
         refine Zr ?_
         refine ZM ?_
         refine ZM ?_
         refine Zt 156 (y_move rfl rfl) ?_
         refine Zt 156 (yb (decide_eq_true (show (planE (trAs Ls) i ((keysG (forkL (trAs Ls) i).length) ++ [([1] : List Int)])) = 11 from (plan_more hi0))) (yi_eql rfl rfl rfl)) ?_
         refine Za (y_pick true rfl rfl rfl) ?_
         refine ZM ?_
         refine Zt 160 (y_move rfl rfl) ?_
         refine Zt 160 (yb (decide_eq_true (show (planE (trAs Ls) i ((keysG (forkL (trAs Ls) i).length).drop 1)) = 11 from (plan_less hi0 hpos))) (yi_eql rfl rfl rfl)) ?_
         refine Za (y_pick true rfl rfl rfl) ?_
         refine ZM ?_
         refine Zt 164 (y_move rfl rfl) ?_
         refine Zt 164 (y_move rfl rfl) ?_
         refine Zt 164 (yb (decide_eq_true (show (planE (trAs Ls) i ((keysG (forkL (trAs Ls) i).length).set (((maskK k 65535) % (forkL (trAs Ls) i).length)) [])) = 5 from (plan_bad5 hi0 hpos))) (yi_eql rfl rfl rfl)) ?_
         refine Za (y_pick true rfl rfl rfl) ?_
         refine ZA ?_
         refine Zn (zk1 8 rfl fn) ?_
         refine cg_ret ?_
         have u := Un u hw30
         exact eg_ret_tmp rfl rfl ⟨_, rfl, rfl, u⟩
        ·refine ZM ?_
         refine Zn (zk5 0 1 9 19 22 rfl rfl rfl rfl rfl (zk3 23 24 25 rfl rfl rfl (zk1 142 rfl fn))) ?_
         refine cg_ct rfl ?_
         refine Zr ?_
         refine ZM ?_
         refine ZM ?_
         refine lg_mk 201 (want_none (by rfl)) rfl (by decide) rfl rfl rfl rfl (by decide) fun b31 w31 n31 => ?_
         have r31 := n31.row
         have k31 := n31.blk
         have z31 := n31.size
         have m31 : Sl w31 (b31 + 1) ⟨some ⟨b31, 0, none⟩, 201, 201⟩ (rd (fun _ => 0) 201) := ⟨Nat.le_refl _, of_decide_eq_true (by kernel_rfl), oct_row r31 (Nat.le_refl _)⟩
         have hh31 : Hs w31 (⟨some ⟨b31, 0, none⟩, 201, 201⟩ : SlV) (rd (fun _ => 0) 201) := Hs.lit m31 (by omega) r31
         have ow29 := ow29.below n31.below
         obtain ⟨gb32, gA32, gl32, gu32⟩ := ow29.addr (i := (((maskK k 65535) % (forkL (trAs Ls) i).length))) (by rw [List.length_set, keysG_len]; omega)
         refine Za (y_ixR (s := s27) (el := 27) (k := 1) (i := (((maskK k 65535) % (forkL (trAs Ls) i).length))) (iI := ((((maskK k 65535) % (forkL (trAs Ls) i).length) : Nat) : Int)) gA32 (by kernel_rfl) (by kernel_rfl) (by omega) (by have q1 := ow29.row.len; have q2 := (); rw [List.length_set, keysG_len] at q1; omega) rfl rfl rfl) ?_
         refine lg_stO (i := (((maskK k 65535) % (forkL (trAs Ls) i).length))) (K := nilS.v) ow29 hh31 (by rw [List.length_set, keysG_len]; omega) (want_none (by rfl)) rfl (fun g e => by rw [gA32] at e; cases e; rfl) rfl rfl fun g33 w33 new33 gb33 st33 ow33 => ?_
         have z33 := st33.size
         refine Zn (zk5 0 1 9 19 22 rfl rfl rfl rfl rfl (zk2 23 25 rfl rfl fn)) ?_
         refine cg_region ?_
         refine ZA ?_
         refine Zn (zk5 0 1 9 19 22 rfl rfl rfl rfl rfl (zk2 23 25 rfl rfl fn)) ?_
         refine Zr ?_
         refine ZM ?_
         refine ZM ?_
         refine ZM ?_
         have h := h.below (hw24.mono (by omega))
         have h := h.below (l25.mono (by omega))
         have h := h.below (l27.mono (by omega))
         have h := h.below (st29.below _ (by omega))
         have h := h.below (n31.below.mono (by omega))
         have h := h.below (st33.below _ (by omega))
         have u := Un u hw24
         have u := Un u l25
         have u := u.trans (l27.mono (by omega))
         have u := u.trans (st29.below _ (by omega))
         have u := Un u n31.below
         have u := u.trans (st33.below _ (by omega))
         refine Zc (plan_any (h.more (B' := w33.heap.size) (by omega)) i (ow33.row.more (B' := w33.heap.size) (by omega)) (Nat.le_refl _) (Tt.up u rg)) rfl rfl ?_
         rintro _ w34 ⟨s34, r34, rfl, m34, n34, hw34⟩
         have zw34 := hw34.size
         have pl34 := planH_le (trAs Ls) i (((keysG (forkL (trAs Ls) i).length).set (((maskK k 65535) % (forkL (trAs Ls) i).length)) []).set (((maskK k 65535) % (forkL (trAs Ls) i).length)) (rd (fun _ => 0) 201))
         refine ZM ?_
         refine Za (y_extract rfl rfl rfl) ?_
         refine Za (y_extract rfl rfl rfl) ?_
         refine Za (y_extract rfl rfl rfl) ?_
         refine ZA ?_
         refine ZA ?_
         refine ZA ?_
         refine Zn (zk5 9 19 22 25 28 rfl rfl rfl rfl rfl fn) ?_
         refine Zr ?_
         refine ZM ?_
         refine ZM ?_
         refine Zt 156 (y_move rfl rfl) ?_
         refine Zt 156 (yb (decide_eq_true (show (planE (trAs Ls) i ((keysG (forkL (trAs Ls) i).length) ++ [([1] : List Int)])) = 11 from (plan_more hi0))) (yi_eql rfl rfl rfl)) ?_
         refine Za (y_pick true rfl rfl rfl) ?_
         refine ZM ?_
         refine Zt 160 (y_move rfl rfl) ?_
         refine Zt 160 (yb (decide_eq_true (show (planE (trAs Ls) i ((keysG (forkL (trAs Ls) i).length).drop 1)) = 11 from (plan_less hi0 hpos))) (yi_eql rfl rfl rfl)) ?_
         refine Za (y_pick true rfl rfl rfl) ?_
         refine ZM ?_
         refine Zt 164 (y_move rfl rfl) ?_
         refine Zt 164 (y_move rfl rfl) ?_
         refine Zt 164 (yb (decide_eq_true (show (planE (trAs Ls) i (((keysG (forkL (trAs Ls) i).length).set (((maskK k 65535) % (forkL (trAs Ls) i).length)) []).set (((maskK k 65535) % (forkL (trAs Ls) i).length)) (rd (fun _ => 0) 201))) = 4 from (plan_bad4 hi0 hpos))) (yi_eql rfl rfl rfl)) ?_
         refine Za (y_pick true rfl rfl rfl) ?_
         refine ZA ?_
         refine Zn (zk1 8 rfl fn) ?_
         refine cg_ret ?_
         have u := Un u hw34
         exact eg_ret_tmp rfl rfl ⟨_, rfl, rfl, u⟩
       ·have hz : (forkL (trAs Ls) i).length = 0 := Classical.byContradiction fun q => c16 (by rw [hH.1 (by omega)]; rfl)
        refine Zt 79 (yb (nd_t c16) (yi_neq rfl rfl rfl)) ?_
        refine Zt 79 (y_move rfl rfl) ?_
        refine Zt 83 (y_move rfl rfl) ?_
        have hw := hw.below (hw15.mono (by omega))
        refine Zt 83 (y_lenM (el := 3) hw.len (by kernel_rfl) rfl rfl) ?_
        refine Zt 83 (yb (decide_eq_false (show ¬ (0 < (((forkL (trAs Ls) i).map Prod.fst).length : Int)) from (by omega))) (yi_gtr rfl rfl rfl)) ?_
        refine Zt 79 (y_pick true rfl rfl rfl) ?_
        refine Za (y_pick false rfl rfl rfl) ?_
        refine ZM ?_
        refine Zt 89 (y_move rfl rfl) ?_
        refine Zt 89 (y_lenS (el := 5) n15 (by kernel_rfl) rfl rfl) ?_
        refine Zt 89 (yb (nd_f (show ((planH (trAs Ls) i (keysG (forkL (trAs Ls) i).length)).length : Int) = 0 from (by rw [hH.2 hz]; rfl))) (yi_neq rfl rfl rfl)) ?_
        refine Zt 89 (y_move rfl rfl) ?_
        refine Zf 93 ?_
        refine Zf 93 ?_
        refine Zf 93 ?_
        refine Zt 89 (y_pick false rfl rfl rfl) ?_
        refine Za (y_pick false rfl rfl rfl) ?_
        refine Zn (zk5 0 1 2 3 9 rfl rfl rfl rfl rfl (zk3 10 11 98 rfl rfl rfl fn)) ?_
        refine cg_cf rfl ?_
        refine cg_skip ?_
        refine nx (zk5 0 1 2 3 9 rfl rfl rfl rfl rfl (zk2 10 11 rfl rfl fn)) ?_
        refine Zr ?_
        have g0 := g0.below hw15
        have g0S := g0
        have g0Su := Below.refl w15.heap.size w15
        obtain ⟨bs36, hbs36⟩ : ∃ q, q = w15.heap.size := ⟨_, rfl⟩
        refine lg_bs0Oc (want_none (by rfl)) rfl rfl (by decide) fun b35 w35 g35 l35 => ?_
        rw [← hbs36] at g35
        have z35 := l35.size
        refine ZM ?_
        have g0 := g0.below l35
        have oo37 := g35
        refine lg_appOE (base := bs36) oo37 g0 (by rw [keysG_len]; omega) (by omega) (want_none (by rfl)) rfl rfl rfl rfl rfl (by decide) fun s37 w37 g37 k37 l37 z37 => ?_
        refine ZA ?_
        refine Zn (zk5 0 1 2 3 9 rfl rfl rfl rfl rfl (zk3 10 11 16 rfl rfl rfl fn)) ?_
        refine Zr ?_
        refine ZM ?_
        refine lg_bslice (z := .int .u8 0) (cs := #[.int .u8 1]) huo24 (by kernel_rfl) (by decide) (by decide) rfl rfl (by kernel_rfl) rfl rfl (by decide) fun b38 w38 n38 => ?_
        have r38 := n38.row
        have k38 := n38.blk
        have z38 := n38.size
        have m38 : Sl w38 (b38 + 1) ⟨some ⟨b38, 0, none⟩, 1, 1⟩ [1] := ⟨Nat.le_refl _, of_decide_eq_true (by kernel_rfl), oct_lit r38 rfl (fun z hz => by simp only [List.mem_cons, List.not_mem_nil, or_false] at hz; omega)⟩
        have hh38 : Hs w38 (⟨some ⟨b38, 0, none⟩, 1, 1⟩ : SlV) ([1] : List Int) := Hs.lit m38 (by omega) r38
        refine lg_bslice (el := 27) (z := .slice none 0 0) (cs := #[(⟨some ⟨b38, 0, none⟩, 1, 1⟩ : SlV).v]) (by kernel_rfl) (by kernel_rfl) (by decide) (by decide) rfl rfl (by kernel_rfl) rfl rfl (by decide) fun b39 w39 n39 => ?_
        have r39 := n39.row
        have k39 := n39.blk
        have z39 := n39.size
        have lt39 : b39 < w39.heap.size := by omega
        have g37 := g37.below n38.below
        have g37 := g37.below n39.below
        have hh38 := hh38.below n39.below
        have oo40 := g37
        refine lg_appOc (base := bs36) oo40 hh38 r39 (by rw [keysG_len]; omega) (by omega) (want_none (by rfl)) rfl rfl rfl rfl rfl (by decide) fun s40 w40 g40 k40 l40 z40 => ?_
        refine ZA ?_
        refine Zn (zk5 0 1 2 3 9 rfl rfl rfl rfl rfl (zk3 10 11 16 rfl rfl rfl fn)) ?_
        refine Zr ?_
        refine ZM ?_
        refine ZM ?_
        refine ZM ?_
        have h := h.below (hw15.mono (by omega))
        have h := h.below (l35.mono (by omega))
        have h := h.below (l37.mono (by omega))
        have h := h.below (n38.below.mono (by omega))
        have h := h.below (n39.below.mono (by omega))
        have h := h.below (l40.mono (by omega))
        have u := Un u hw15
        have u := Un u l35
        have u := u.trans (l37.mono (by omega))
        have u := Un u n38.below
        have u := Un u n39.below
        have u := u.trans (l40.mono (by omega))
        refine Zc (plan_any (h.more (B' := w40.heap.size) (by omega)) i (g40.row.more (B' := w40.heap.size) (by omega)) (Nat.le_refl _) (Tt.up u rg)) rfl rfl ?_
        rintro _ w41 ⟨s41, r41, rfl, m41, n41, hw41⟩
        have zw41 := hw41.size
        have pl41 := planH_le (trAs Ls) i ((keysG (forkL (trAs Ls) i).length) ++ [([1] : List Int)])
        refine ZM ?_
        refine Za (y_extract rfl rfl rfl) ?_
        refine Za (y_extract rfl rfl rfl) ?_
        refine Za (y_extract rfl rfl rfl) ?_
        refine ZA ?_
        refine ZA ?_
        refine ZA ?_
        refine Zn (zk5 0 1 2 3 9 rfl rfl rfl rfl rfl (zk3 10 11 19 rfl rfl rfl fn)) ?_
        refine cg_seq ?_
        refine Zr ?_
        refine ZM ?_
        have hw := hw.below (l35.mono (by omega))
        have hw := hw.below (l37.mono (by omega))
        have hw := hw.below (n38.below.mono (by omega))
        have hw := hw.below (n39.below.mono (by omega))
        have hw := hw.below (l40.mono (by omega))
        have hw := hw.below (hw41.mono (by omega))
        refine Za (y_lenM (el := 3) hw.len (by kernel_rfl) rfl rfl) ?_
        refine Za (yb (decide_eq_true (show (((forkL (trAs Ls) i).map Prod.fst).length : Int) = 0 from (by omega))) (yi_eql rfl rfl rfl)) ?_
        refine Zn (zk5 0 1 2 3 9 rfl rfl rfl rfl rfl (zk3 11 19 116 rfl rfl rfl fn)) ?_
        refine cg_ct rfl ?_
        refine Zr ?_
        refine ZM ?_
        refine ZM ?_
        refine Zt 118 (y_move rfl rfl) ?_
        refine Zt 118 (yb (decide_eq_true (show (planE (trAs Ls) i ((keysG (forkL (trAs Ls) i).length) ++ [([1] : List Int)])) = 11 from (plan_more hi0))) (yi_eql rfl rfl rfl)) ?_
        refine Za (y_pick true rfl rfl rfl) ?_
        refine ZA ?_
        refine Zn (zk5 0 1 2 3 9 rfl rfl rfl rfl rfl (zk3 11 19 8 rfl rfl rfl fn)) ?_
        refine cg_ret ?_
        refine eg_seq_ret ?_
        have u := Un u hw41
        exact eg_ret_tmp rfl rfl ⟨_, rfl, rfl, u⟩
   ·refine Zct 38 (sane_any (h.more (B' := w3.heap.size) (by omega)) (Nat.le_refl _)) rfl rfl ?_
    rintro u42 w42 ⟨e42, hw42⟩
    have zw42 := hw42.size
    obtain rfl : u42 = .bool false := e42.trans (congrArg Value.bool (decide_eq_false c5))
    refine Zt 38 (y_bnot rfl rfl) ?_
    refine Za (y_pick false rfl rfl rfl) ?_
    refine ZM ?_
    refine Zf 43 ?_
    refine Zf 43 ?_
    refine Za (y_pick true rfl rfl rfl) ?_
    refine ZM ?_
    refine Zf 47 ?_
    refine Zf 47 ?_
    refine Zf 47 ?_
    refine Zf 47 ?_
    refine Za (y_pick true rfl rfl rfl) ?_
    refine Zn (zk5 0 1 2 3 8 rfl rfl rfl rfl rfl (zk2 9 52 rfl rfl fn)) ?_
    refine cg_ct rfl ?_
    refine Zr ?_
    refine ZM ?_
    refine ZA ?_
    refine Zn (zk5 0 1 2 3 9 rfl rfl rfl rfl rfl (zk1 8 rfl fn)) ?_
    refine cg_ret ?_
    refine eg_seq_ret ?_
    have u := Un u hw1
    have u := Un u hw3
    have u := Un u hw42
    exact eg_ret_tmp rfl rfl ⟨_, rfl, rfl, u⟩
 ·refine Zc (fewR_any (h.more (B' := w1.heap.size) (by omega)) (Nat.le_refl _)) rfl rfl ?_
  rintro u43 w43 ⟨e43, hw43⟩
  have zw43 := hw43.size
  obtain rfl : u43 = .bool false := e43.trans (congrArg Value.bool (decide_eq_false c2))
  refine Za (y_bnot rfl rfl) ?_
  refine ZM ?_
  refine Zf 33 ?_
  refine Zf 33 ?_
  refine Zf 33 ?_
  refine Za (y_pick true rfl rfl rfl) ?_
  refine ZM ?_
  refine Zf 38 ?_
  refine Zf 38 ?_
  refine Zf 38 ?_
  refine Za (y_pick true rfl rfl rfl) ?_
  refine ZM ?_
  refine Zf 43 ?_
  refine Zf 43 ?_
  refine Za (y_pick true rfl rfl rfl) ?_
  refine ZM ?_
  refine Zf 47 ?_
  refine Zf 47 ?_
  refine Zf 47 ?_
  refine Zf 47 ?_
  refine Za (y_pick true rfl rfl rfl) ?_
  refine Zn (zk5 0 1 2 3 8 rfl rfl rfl rfl rfl (zk2 9 52 rfl rfl fn)) ?_
  refine cg_ct rfl ?_
  refine Zr ?_
  refine ZM ?_
  refine ZA ?_
  refine Zn (zk5 0 1 2 3 9 rfl rfl rfl rfl rfl (zk1 8 rfl fn)) ?_
  refine cg_ret ?_
  refine eg_seq_ret ?_
  have u := Un u hw1
  have u := Un u hw43
  exact eg_ret_tmp rfl rfl ⟨_, rfl, rfl, u⟩
end Go.Proofs.YtfbnallapgokeaaGreatDoor
