/-
  Beside each node of the filtered way somebody is.
-/
import Derived.Test.YtjcnfmmekpiliaaDoorRsAwake
namespace Go.Proofs.YtjcnfmmekpiliaaDoor
open Go.ChangeShapes Go.WideShapes Go.ChangeAt Go.RowKit
set_option linter.unusedVariables false

theorem res_zero {t : List Nd} {x : Int} : ((resL t x).length : Int) = 0 ↔ hiL t x = [] := by
  have h := res_some (t := t) (x := x)
  constructor
  · intro e
    exact Classical.byContradiction fun q => by
      have := h.2 q
      omega
  · intro e
    have : ¬ 0 < ((resL t x).length : Int) := fun q => h.1 q e
    omega
set_option maxHeartbeats 4000000 in
theorem resolveFilter_any {W : World} {s : SlV} {Ls : List Nd} (h : RwNd W W.heap.size s Ls) (i : Int) (rg : Tb W) : Calls Tryd.prog 6 #[s.v, nv i] W fun e W' => ∃ v, e = .returned v ∧ v = .bool true ∧ Below W.heap.size W W' := by
  refine calls_cg (n := 134) Tryd.func6 rfl Tryd.ntmps6 (by simp) ?_
  show CG _ _ _ [(0, s.v), (1, nv i)] _ _
  have u := Below.refl W.heap.size W
  have q1 := h.len
  have q2 := h.cap
  have tl := trAs_le Ls
  have lvd : leavesA (trAs Ls) = ((trAs Ls).length + 1) / 2 := rfl
  refine cg_seq ?_
  refine cg_region ?_
  refine zA rfl rfl rfl rfl rfl ?_
  refine lg_nil ?_
  refine nx (zk3 0 1 4 rfl rfl rfl fn) ?_
  refine cg_seq ?_
  refine cg_region ?_
  refine lg_callw (want_none (by rfl)) (awakeR_any _ (rg.up u)) (by kernel_rfl) rfl rfl rfl (by decide) ?_
  rintro _ w1 ⟨rfl, hw1⟩
  have zw1 := hw1.size
  refine zA rfl rfl rfl rfl rfl ?_
  refine lg_nil ?_
  refine nx (zk3 0 1 4 rfl rfl rfl (zk1 5 rfl fn)) ?_
  refine cg_seq ?_
  refine cg_seq ?_
  refine cg_region ?_
  refine zM rfl rfl rfl rfl rfl ?_
  have h := h.below (hw1.mono (by omega))
  by_cases c2 : trFew Ls
  · refine lg_callw (want_none (by rfl)) (fewR_any (h.more (B' := w1.heap.size) (by omega)) (Nat.le_refl _)) (by kernel_rfl) rfl rfl rfl (by decide) ?_
    rintro u3 w3 ⟨e3, hw3⟩
    have zw3 := hw3.size
    obtain rfl : u3 = .bool true := e3.trans (congrArg Value.bool (decide_eq_true c2))
    refine za rfl (y_bnot rfl rfl) rfl rfl ?_
    refine zM rfl rfl rfl rfl rfl ?_
    refine zt 16 rfl (by kernel_rfl) rfl (y_move rfl rfl) rfl rfl ?_
    have h := h.below (hw3.mono (by omega))
    by_cases c4 : trIs Ls
    · have htr := c4
      have htl := trIs_le htr
      have hta := trAs_ok htr
      refine lg_callw (want_t (dj := 16) (by rfl) (by kernel_rfl) rfl) (sane_any (h.more (B' := w3.heap.size) (by omega)) (Nat.le_refl _)) (by kernel_rfl) rfl rfl rfl (by decide) ?_
      rintro u5 w5 ⟨e5, hw5⟩
      have zw5 := hw5.size
      obtain rfl : u5 = .bool true := e5.trans (congrArg Value.bool (decide_eq_true c4))
      refine zt 16 rfl (by kernel_rfl) rfl (y_bnot rfl rfl) rfl rfl ?_
      refine za rfl (y_pick false rfl rfl rfl) rfl rfl ?_
      refine lg_nil ?_
      refine nx (zk5 0 1 4 5 20 rfl rfl rfl rfl rfl fn) ?_
      refine cg_cf rfl ?_
      refine cg_skip ?_
      refine nx (zk3 0 1 4 rfl rfl rfl (zk1 5 rfl fn)) ?_
      refine cg_seq ?_
      refine cg_region ?_
      refine zM rfl rfl rfl rfl rfl ?_
      refine zM rfl rfl rfl rfl rfl ?_
      have h := h.below (hw5.mono (by omega))
      have u := u.trans (hw1.mono u.size)
      have u := u.trans (hw3.mono u.size)
      have u := u.trans (hw5.mono u.size)
      refine lg_callw (want_none (by rfl)) (filter_any (h.more (B' := w5.heap.size) (by omega)) i (Nat.le_refl _) (rg.up u)) (by kernel_rfl) rfl rfl rfl (by decide) ?_
      rintro _ w6 ⟨s6, rfl, m6, hw6⟩
      have zw6 := hw6.size
      have fl6 : ((forkL (trAs Ls) i).map Prod.fst).length ≤ 6 := by rw [List.length_map]; exact fork_len _ _
      refine zA rfl rfl rfl rfl rfl ?_
      refine lg_nil ?_
      refine nx (zk5 0 1 4 5 6 rfl rfl rfl rfl rfl fn) ?_
      refine cg_seq ?_
      refine cg_region ?_
      refine zM rfl rfl rfl rfl rfl ?_
      refine zM rfl rfl rfl rfl rfl ?_
      have h := h.below (hw6.mono (by omega))
      have u := u.trans (hw6.mono u.size)
      refine lg_callw (want_none (by rfl)) (beside_any (h.more (B' := w6.heap.size) (by omega)) i (Nat.le_refl _) (rg.up u)) (by kernel_rfl) rfl rfl rfl (by decide) ?_
      rintro _ w7 ⟨s7, rfl, m7, hw7⟩
      have zw7 := hw7.size
      have fl7 : ((forkL (trAs Ls) i).map Prod.snd).length ≤ 6 := by rw [List.length_map]; exact fork_len _ _
      refine zA rfl rfl rfl rfl rfl ?_
      refine lg_nil ?_
      refine nx (zk5 0 1 4 5 6 rfl rfl rfl rfl rfl (zk1 7 rfl fn)) ?_
      refine cg_seq ?_
      refine cg_seq ?_
      refine cg_region ?_
      refine zM rfl rfl rfl rfl rfl ?_
      by_cases c8 : i < 0
      · have hno : (forkL (trAs Ls) i) = [] := fork_no (fun q => by omega)
        refine za rfl (yb (decide_eq_true c8) (yi_lss rfl rfl rfl)) rfl rfl ?_
        refine zM rfl rfl rfl rfl rfl ?_
        refine zf 30 rfl (by kernel_rfl) rfl rfl rfl ?_
        refine zf 30 rfl (by kernel_rfl) rfl rfl rfl ?_
        refine zf 30 rfl (by kernel_rfl) rfl rfl rfl ?_
        refine zf 30 rfl (by kernel_rfl) rfl rfl rfl ?_
        refine za rfl (y_pick true rfl rfl rfl) rfl rfl ?_
        refine lg_nil ?_
        refine nx (zk5 0 1 4 5 6 rfl rfl rfl rfl rfl (zk2 7 35 rfl rfl fn)) ?_
        refine cg_ct rfl ?_
        refine cg_seq ?_
        refine cg_region ?_
        refine zM rfl rfl rfl rfl rfl ?_
        refine zM rfl rfl rfl rfl rfl ?_
        refine zt 37 rfl (by kernel_rfl) rfl (y_move rfl rfl) rfl rfl ?_
        have m6 := m6.below (hw7.mono (by omega))
        refine zt 37 rfl (by kernel_rfl) rfl (y_lenM (el := 3) m6.len (by kernel_rfl) rfl rfl) rfl rfl ?_
        refine zt 37 rfl (by kernel_rfl) rfl (yb (decide_eq_true (show (((forkL (trAs Ls) i).map Prod.fst).length : Int) = 0 from (by rw [hno]; rfl))) (yi_eql rfl rfl rfl)) rfl rfl ?_
        refine za rfl (y_pick true rfl rfl rfl) rfl rfl ?_
        refine zM rfl rfl rfl rfl rfl ?_
        refine zt 42 rfl (by kernel_rfl) rfl (y_move rfl rfl) rfl rfl ?_
        refine zt 42 rfl (by kernel_rfl) rfl (y_lenM (el := 3) m7.len (by kernel_rfl) rfl rfl) rfl rfl ?_
        refine zt 42 rfl (by kernel_rfl) rfl (yb (decide_eq_true (show (((forkL (trAs Ls) i).map Prod.snd).length : Int) = 0 from (by rw [hno]; rfl))) (yi_eql rfl rfl rfl)) rfl rfl ?_
        refine za rfl (y_pick true rfl rfl rfl) rfl rfl ?_
        refine zA rfl rfl rfl rfl rfl ?_
        refine lg_nil ?_
        refine nx (zk5 0 1 5 6 7 rfl rfl rfl rfl rfl (zk1 4 rfl fn)) ?_
        refine cg_ret ?_
        refine eg_seq_ret ?_
        have u := u.trans (hw7.mono u.size)
        exact eg_ret_tmp rfl rfl ⟨_, rfl, rfl, u⟩
      · refine za rfl (yb (decide_eq_false c8) (yi_lss rfl rfl rfl)) rfl rfl ?_
        refine zM rfl rfl rfl rfl rfl ?_
        refine zt 30 rfl (by kernel_rfl) rfl (y_move rfl rfl) rfl rfl ?_
        refine zt 30 rfl (by kernel_rfl) rfl (y_move rfl rfl) rfl rfl ?_
        have h := h.below (hw7.mono (by omega))
        refine lg_callw (want_t (dj := 30) (by rfl) (by kernel_rfl) rfl) (leavesT_any (h.more (B' := w7.heap.size) (by omega)) (Nat.le_refl _)) (by kernel_rfl) rfl rfl rfl (by decide) ?_
        rintro _ w9 ⟨rfl, hw9⟩
        have zw9 := hw9.size
        by_cases c10 : ((leavesA (trAs Ls) : Nat) : Int) ≤ i
        · have hno : (forkL (trAs Ls) i) = [] := fork_no (fun q => by omega)
          refine zt 30 rfl (by kernel_rfl) rfl (yb (decide_eq_true c10) (yi_geq rfl rfl rfl)) rfl rfl ?_
          refine za rfl (y_pick false rfl rfl rfl) rfl rfl ?_
          refine lg_nil ?_
          refine nx (zk5 0 1 4 5 6 rfl rfl rfl rfl rfl (zk2 7 35 rfl rfl fn)) ?_
          refine cg_ct rfl ?_
          refine cg_seq ?_
          refine cg_region ?_
          refine zM rfl rfl rfl rfl rfl ?_
          refine zM rfl rfl rfl rfl rfl ?_
          refine zt 37 rfl (by kernel_rfl) rfl (y_move rfl rfl) rfl rfl ?_
          have m6 := m6.below (hw7.mono (by omega))
          have m6 := m6.below (hw9.mono (by omega))
          refine zt 37 rfl (by kernel_rfl) rfl (y_lenM (el := 3) m6.len (by kernel_rfl) rfl rfl) rfl rfl ?_
          refine zt 37 rfl (by kernel_rfl) rfl (yb (decide_eq_true (show (((forkL (trAs Ls) i).map Prod.fst).length : Int) = 0 from (by rw [hno]; rfl))) (yi_eql rfl rfl rfl)) rfl rfl ?_
          refine za rfl (y_pick true rfl rfl rfl) rfl rfl ?_
          refine zM rfl rfl rfl rfl rfl ?_
          refine zt 42 rfl (by kernel_rfl) rfl (y_move rfl rfl) rfl rfl ?_
          have m7 := m7.below (hw9.mono (by omega))
          refine zt 42 rfl (by kernel_rfl) rfl (y_lenM (el := 3) m7.len (by kernel_rfl) rfl rfl) rfl rfl ?_
          refine zt 42 rfl (by kernel_rfl) rfl (yb (decide_eq_true (show (((forkL (trAs Ls) i).map Prod.snd).length : Int) = 0 from (by rw [hno]; rfl))) (yi_eql rfl rfl rfl)) rfl rfl ?_
          refine za rfl (y_pick true rfl rfl rfl) rfl rfl ?_
          refine zA rfl rfl rfl rfl rfl ?_
          refine lg_nil ?_
          refine nx (zk5 0 1 5 6 7 rfl rfl rfl rfl rfl (zk1 4 rfl fn)) ?_
          refine cg_ret ?_
          refine eg_seq_ret ?_
          have u := u.trans (hw7.mono u.size)
          have u := u.trans (hw9.mono u.size)
          exact eg_ret_tmp rfl rfl ⟨_, rfl, rfl, u⟩
        · obtain ⟨_, hN, hi64, hxs⟩ := forks_is (Ls := Ls) (i := i) (by omega) (by omega)
          obtain ⟨wl, cl⟩ := wayP_len hN
          have dl := dirL (2 * i) (Ls.length : Int)
          refine zt 30 rfl (by kernel_rfl) rfl (yb (decide_eq_false c10) (yi_geq rfl rfl rfl)) rfl rfl ?_
          refine za rfl (y_pick false rfl rfl rfl) rfl rfl ?_
          refine lg_nil ?_
          refine nx (zk5 0 1 4 5 6 rfl rfl rfl rfl rfl (zk2 7 35 rfl rfl fn)) ?_
          refine cg_cf rfl ?_
          refine cg_skip ?_
          refine nx (zk5 0 1 4 5 6 rfl rfl rfl rfl rfl (zk1 7 rfl fn)) ?_
          refine cg_seq ?_
          refine cg_region ?_
          refine zM rfl rfl rfl rfl rfl ?_
          refine za rfl (yi_mul rfl rfl rfl (by omega) (by omega)) rfl rfl ?_
          refine zM rfl rfl rfl rfl rfl ?_
          have h := h.below (hw9.mono (by omega))
          refine za rfl (y_lenM (el := 36) h.len (by kernel_rfl) rfl rfl) rfl rfl ?_
          have u := u.trans (hw7.mono u.size)
          have u := u.trans (hw9.mono u.size)
          refine lg_callw (want_none (by rfl)) (directF (2 * i) (Ls.length : Int) _ (rg.up u)) (by kernel_rfl) rfl rfl rfl (by decide) ?_
          rintro _ w11 ⟨s11, rfl, m11, f11, hw11⟩
          have zw11 := hw11.size
          refine zA rfl rfl rfl rfl rfl ?_
          refine lg_nil ?_
          refine nx (zk5 0 1 4 5 6 rfl rfl rfl rfl rfl (zk2 7 8 rfl rfl fn)) ?_
          refine cg_seq ?_
          refine cg_region ?_
          refine zM rfl rfl rfl rfl rfl ?_
          refine za rfl (yi_mul rfl rfl rfl (by omega) (by omega)) rfl rfl ?_
          refine zM rfl rfl rfl rfl rfl ?_
          have h := h.below (hw11.mono (by omega))
          refine za rfl (y_lenM (el := 36) h.len (by kernel_rfl) rfl rfl) rfl rfl ?_
          have u := u.trans (hw11.mono u.size)
          refine lg_callw (want_none (by rfl)) (copathF (2 * i) (Ls.length : Int) _ (rg.up u)) (by kernel_rfl) rfl rfl rfl (by decide) ?_
          rintro _ w12 ⟨s12, rfl, m12, f12, hw12⟩
          have zw12 := hw12.size
          refine zA rfl rfl rfl rfl rfl ?_
          refine lg_nil ?_
          refine nx (zk5 0 4 5 6 7 rfl rfl rfl rfl rfl (zk2 8 9 rfl rfl fn)) ?_
          refine cg_seq ?_
          refine cg_region ?_
          refine zA rfl rfl rfl rfl rfl ?_
          refine lg_nil ?_
          refine nx (zk5 0 4 5 6 7 rfl rfl rfl rfl rfl (zk3 8 9 10 rfl rfl rfl fn)) ?_
          refine cg_seq ?_
          refine cg_seq ?_
          refine cg_region ?_
          refine zA rfl rfl rfl rfl rfl ?_
          refine lg_nil ?_
          refine nx (zk5 0 4 5 6 7 rfl rfl rfl rfl rfl (zk3 8 9 10 rfl rfl rfl (zk1 11 rfl fn))) ?_
          refine cg_block ?_
          obtain ⟨C, hC⟩ : ∃ q, q = w12.heap.size := ⟨_, rfl⟩
          have m6 := m6.below (hw7.mono (by omega))
          have m6 := m6.below (hw9.mono (by omega))
          have m6 := m6.below (hw11.mono (by omega))
          have m6 := m6.below (hw12.mono (by omega))
          have m7 := m7.below (hw9.mono (by omega))
          have m7 := m7.below (hw11.mono (by omega))
          have m7 := m7.below (hw12.mono (by omega))
          have m11 := m11.below (hw12.mono (by omega))
          have h := h.below (hw12.mono (by omega))
          have u := u.trans (hw12.mono u.size)
          refine cg_loopE (fun t a v => ∃ (K : Nat), Holds 134 [(0, s.v), (5, .bool true), (6, s6.v), (7, s7.v), (8, s11.v), (9, s12.v), (10, nv ((K : Nat) : Int)), (11, nv ((t : Nat) : Int))] a ∧ RwNd v W.heap.size s Ls ∧ Below W.heap.size W v ∧ C ≤ v.heap.size ∧ W.heap.size ≤ C ∧ SlN v C s6 ((forkF Ls (wayP Ls i)).map Prod.fst) ∧ SlN v C s7 ((forkF Ls (wayP Ls i)).map Prod.snd) ∧ SlN v C s11 (dirI (2 * i) (Ls.length : Int)) ∧ SlN v C s12 (copI (2 * i) (Ls.length : Int)) ∧ K = (forkF Ls ((wayP Ls i).take t)).length ∧ t ≤ (dirI (2 * i) (Ls.length : Int)).length) ((dirI (2 * i) (Ls.length : Int)).length + 1) (fun a ha => ⟨0, ha.keep (fk rfl (fk rfl (fk rfl (fk rfl (fk rfl (fk rfl (fk rfl (fk rfl fn)))))))), h, u, (Nat.le_of_eq hC), (by omega), ((m6.cast (by rw [hxs])).more (by omega)), ((m7.cast (by rw [hxs])).more (by omega)), (m11.more (by omega)), (m12.more (by omega)), rfl, (Nat.zero_le _)⟩) ?_
          rintro t a v ht ⟨K, ha, h, u, cC, cW, hf, hb, hd, hc, hK, htl2⟩
          refine cg_at ha ?_
          clear ha a
          have zv := u.size
          have lf := hf.len
          have lb := hb.len
          have ld := hd.len
          have lc := hc.len
          have bf := hf.cap
          have bb := hb.cap
          have bd := hd.cap
          have bc := hc.cap
          have q1 := h.len
          have q2 := h.cap
          refine cg_seq ?_
          refine cg_seq ?_
          refine cg_region ?_
          refine zM rfl rfl rfl rfl rfl ?_
          refine zM rfl rfl rfl rfl rfl ?_
          refine za rfl (y_lenM (el := 3) hd.len (by kernel_rfl) rfl rfl) rfl rfl ?_
          by_cases c13 : ((t : Nat) : Int) < ((dirI (2 * i) (Ls.length : Int)).length : Int)
          · refine za rfl (yb (decide_eq_true c13) (yi_lss rfl rfl rfl)) rfl rfl ?_
            refine lg_nil ?_
            refine nx (zk5 0 5 6 7 8 rfl rfl rfl rfl rfl (zk3 9 10 11 rfl rfl rfl (zk1 60 rfl fn))) ?_
            refine cg_ct rfl ?_
            refine cg_skip ?_
            refine nx (zk5 0 5 6 7 8 rfl rfl rfl rfl rfl (zk3 9 10 11 rfl rfl rfl fn)) ?_
            refine cg_seq ?_
            refine cg_block ?_
            refine cg_seq ?_
            refine cg_seq ?_
            refine cg_region ?_
            refine zM rfl rfl rfl rfl rfl ?_
            refine zM rfl rfl rfl rfl rfl ?_
            refine zM rfl rfl rfl rfl rfl ?_
            refine za rfl (y_ixT (i := t) (iI := ((t : Nat) : Int)) hc (by omega) (by first | omega | (simp only [List.length_append, List.length_cons, List.length_nil]; omega)) rfl rfl rfl) rfl rfl ?_
            refine za rfl (y_ldT (i := t) hc (by first | omega | (simp only [List.length_append, List.length_cons, List.length_nil]; omega)) rfl rfl) rfl rfl ?_
            refine lg_callw (want_none (by rfl)) (resolve_any (h.more (B' := v.heap.size) (by omega)) ((copI (2 * i) (Ls.length : Int)).getD t 0) (Nat.le_refl _) (rg.up u)) (by kernel_rfl) rfl rfl rfl (by decide) ?_
            rintro _ w14 ⟨s14, rfl, m14, hw14⟩
            have zw14 := hw14.size
            have rl14 := res_len (trAs_is Ls) ((copI (2 * i) (Ls.length : Int)).getD t 0)
            rw [trAs_ok htr] at m14 rl14
            refine za rfl (y_lenM (el := 3) m14.len (by kernel_rfl) rfl rfl) rfl rfl ?_
            by_cases c15 : ((resL Ls ((copI (2 * i) (Ls.length : Int)).getD t 0)).length : Int) = 0
            · have hh : hiL Ls ((copI (2 * i) (Ls.length : Int)).getD t 0) = [] := res_zero.1 c15
              refine za rfl (yb (decide_eq_true c15) (yi_eql rfl rfl rfl)) rfl rfl ?_
              refine lg_nil ?_
              refine nx (zk5 0 5 6 7 8 rfl rfl rfl rfl rfl (zk3 9 10 11 rfl rfl rfl (zk1 70 rfl fn))) ?_
              refine cg_ct rfl ?_
              refine cg_seq ?_
              refine cg_seq ?_
              refine cg_region ?_
              refine zM rfl rfl rfl rfl rfl ?_
              refine zM rfl rfl rfl rfl rfl ?_
              refine zM rfl rfl rfl rfl rfl ?_
              have hd := hd.below (hw14.mono (by omega))
              refine za rfl (y_ixT (i := t) (iI := ((t : Nat) : Int)) hd (by omega) (by first | omega | (simp only [List.length_append, List.length_cons, List.length_nil]; omega)) rfl rfl rfl) rfl rfl ?_
              refine za rfl (y_ldT (i := t) hd (by first | omega | (simp only [List.length_append, List.length_cons, List.length_nil]; omega)) rfl rfl) rfl rfl ?_
              have hf := hf.below (hw14.mono (by omega))
              refine za rfl (yb (decide_eq_false (show ¬ (((dirI (2 * i) (Ls.length : Int)).getD t 0) ∈ ((forkF Ls (wayP Ls i)).map Prod.fst)) from (fork_out hN (show t < (dirI (2 * i) (Ls.length : Int)).length by omega) hh))) (y_call (has_any hf ((dirI (2 * i) (Ls.length : Int)).getD t 0)) (by kernel_rfl) rfl rfl)) rfl rfl ?_
              refine lg_nil ?_
              refine nx (zk5 0 5 6 7 8 rfl rfl rfl rfl rfl (zk3 9 10 11 rfl rfl rfl (zk1 76 rfl fn))) ?_
              refine cg_cf rfl ?_
              refine cg_skip ?_
              refine nx (zk5 0 5 6 7 8 rfl rfl rfl rfl rfl (zk3 9 10 11 rfl rfl rfl fn)) ?_
              refine cg_exit ?_
              refine eg_seq_exit ?_
              refine eg_block_exit ?_
              refine nx (zk5 0 5 6 7 8 rfl rfl rfl rfl rfl (zk3 9 10 11 rfl rfl rfl fn)) ?_
              refine cg_region ?_
              refine zM rfl rfl rfl rfl rfl ?_
              refine za rfl (yv (congrArg nv (show ((t : Nat) : Int) + 1 = ((t + 1 : Nat) : Int) by omega)) (yi_add rfl rfl rfl (by omega) (by omega))) rfl rfl ?_
              refine zA rfl rfl rfl rfl rfl ?_
              refine lg_nil ?_
              have h := h.below (hw14.mono (by omega))
              have u := u.trans (hw14.mono u.size)
              have cC := (show C ≤ w14.heap.size by omega)
              have cW := cW
              have hb := hb.below (hw14.mono (by omega))
              have hc := hc.below (hw14.mono (by omega))
              exact fun a ha => (show t < ((dirI (2 * i) (Ls.length : Int)).length + 1) ∧ _ from ⟨(by omega), K, ha.keep (fk rfl (fk rfl (fk rfl (fk rfl (fk rfl (fk rfl (fk rfl (fk rfl fn)))))))), h, u, cC, cW, hf, hb, hd, hc, (by rw [hK, (wayP_at hN (show t < (dirI (2 * i) (Ls.length : Int)).length by omega)), forkF_no (p := ((dirI (2 * i) (Ls.length : Int)).getD t 0, (copI (2 * i) (Ls.length : Int)).getD t 0)) (fun q => q hh)]), (by omega)⟩)
            · have hh : ¬ hiL Ls ((copI (2 * i) (Ls.length : Int)).getD t 0) = [] := fun q => c15 (res_zero.2 q)
              obtain ⟨fk1, fk2, fk3⟩ := fork_in_fst hN (show t < (dirI (2 * i) (Ls.length : Int)).length by omega) hh
              rw [← hK] at fk1 fk2 fk3
              have lf1 : ((forkF Ls (wayP Ls i)).map Prod.fst).length = (forkF Ls (wayP Ls i)).length := List.length_map _
              have lf2 : ((forkF Ls (wayP Ls i)).map Prod.snd).length = (forkF Ls (wayP Ls i)).length := List.length_map _
              refine za rfl (yb (decide_eq_false c15) (yi_eql rfl rfl rfl)) rfl rfl ?_
              refine lg_nil ?_
              refine nx (zk5 0 5 6 7 8 rfl rfl rfl rfl rfl (zk3 9 10 11 rfl rfl rfl (zk1 70 rfl fn))) ?_
              refine cg_cf rfl ?_
              refine cg_skip ?_
              refine nx (zk5 0 5 6 7 8 rfl rfl rfl rfl rfl (zk3 9 10 11 rfl rfl rfl fn)) ?_
              refine cg_seq ?_
              refine cg_seq ?_
              refine cg_still (by kernel_rfl) (by kernel_rfl) fun W16 eW16 => ?_
              have dW16 := below_drew _ _ eW16
              have zW16 := size_drew _ _ eW16
              clear eW16
              refine zsa rfl (y_move rfl rfl) rfl rfl ?_
              refine zsa rfl (y_move rfl rfl) rfl rfl ?_
              have hf := hf.below (hw14.mono (by omega))
              have hf := hf.below (dW16.mono (by omega))
              refine zsa rfl (y_lenM (el := 3) hf.len (by kernel_rfl) rfl rfl) rfl rfl ?_
              refine zsa rfl (yb (decide_eq_false (show ¬ ((((forkF Ls (wayP Ls i)).map Prod.fst).length : Int) ≤ ((K : Nat) : Int)) from (by omega))) (yi_geq rfl rfl rfl)) rfl rfl ?_
              refine zsa rfl (y_move rfl rfl) rfl rfl ?_
              refine zst 81 rfl (by kernel_rfl) rfl (y_move rfl rfl) rfl rfl ?_
              refine zst 81 rfl (by kernel_rfl) rfl (y_move rfl rfl) rfl rfl ?_
              have hb := hb.below (hw14.mono (by omega))
              have hb := hb.below (dW16.mono (by omega))
              refine zst 81 rfl (by kernel_rfl) rfl (y_lenM (el := 3) hb.len (by kernel_rfl) rfl rfl) rfl rfl ?_
              refine zst 81 rfl (by kernel_rfl) rfl (yb (decide_eq_false (show ¬ ((((forkF Ls (wayP Ls i)).map Prod.snd).length : Int) ≤ ((K : Nat) : Int)) from (by omega))) (yi_geq rfl rfl rfl)) rfl rfl ?_
              refine zsa rfl (y_pick false rfl rfl rfl) rfl rfl ?_
              refine zsa rfl (y_move rfl rfl) rfl rfl ?_
              refine zst 87 rfl (by kernel_rfl) rfl (y_move rfl rfl) rfl rfl ?_
              refine zst 87 rfl (by kernel_rfl) rfl (y_move rfl rfl) rfl rfl ?_
              refine zst 87 rfl (by kernel_rfl) rfl (y_ixT (i := K) (iI := ((K : Nat) : Int)) hf (by omega) (by first | omega | (simp only [List.length_append, List.length_cons, List.length_nil]; omega)) rfl rfl rfl) rfl rfl ?_
              refine zst 87 rfl (by kernel_rfl) rfl (y_ldT (i := K) hf (by first | omega | (simp only [List.length_append, List.length_cons, List.length_nil]; omega)) rfl rfl) rfl rfl ?_
              refine zst 87 rfl (by kernel_rfl) rfl (y_move rfl rfl) rfl rfl ?_
              refine zst 87 rfl (by kernel_rfl) rfl (y_move rfl rfl) rfl rfl ?_
              have hd := hd.below (hw14.mono (by omega))
              have hd := hd.below (dW16.mono (by omega))
              refine zst 87 rfl (by kernel_rfl) rfl (y_ixT (i := t) (iI := ((t : Nat) : Int)) hd (by omega) (by first | omega | (simp only [List.length_append, List.length_cons, List.length_nil]; omega)) rfl rfl rfl) rfl rfl ?_
              refine zst 87 rfl (by kernel_rfl) rfl (y_ldT (i := t) hd (by first | omega | (simp only [List.length_append, List.length_cons, List.length_nil]; omega)) rfl rfl) rfl rfl ?_
              refine zst 87 rfl (by kernel_rfl) rfl (yb (nd_f fk2) (yi_neq rfl rfl rfl)) rfl rfl ?_
              refine zsa rfl (y_pick false rfl rfl rfl) rfl rfl ?_
              refine zsa rfl (y_move rfl rfl) rfl rfl ?_
              refine zst 98 rfl (by kernel_rfl) rfl (y_move rfl rfl) rfl rfl ?_
              refine zst 98 rfl (by kernel_rfl) rfl (y_move rfl rfl) rfl rfl ?_
              refine zst 98 rfl (by kernel_rfl) rfl (y_ixT (i := K) (iI := ((K : Nat) : Int)) hb (by omega) (by first | omega | (simp only [List.length_append, List.length_cons, List.length_nil]; omega)) rfl rfl rfl) rfl rfl ?_
              refine zst 98 rfl (by kernel_rfl) rfl (y_ldT (i := K) hb (by first | omega | (simp only [List.length_append, List.length_cons, List.length_nil]; omega)) rfl rfl) rfl rfl ?_
              refine zst 98 rfl (by kernel_rfl) rfl (y_move rfl rfl) rfl rfl ?_
              refine zst 98 rfl (by kernel_rfl) rfl (y_move rfl rfl) rfl rfl ?_
              have hc := hc.below (hw14.mono (by omega))
              have hc := hc.below (dW16.mono (by omega))
              refine zst 98 rfl (by kernel_rfl) rfl (y_ixT (i := t) (iI := ((t : Nat) : Int)) hc (by omega) (by first | omega | (simp only [List.length_append, List.length_cons, List.length_nil]; omega)) rfl rfl rfl) rfl rfl ?_
              refine zst 98 rfl (by kernel_rfl) rfl (y_ldT (i := t) hc (by first | omega | (simp only [List.length_append, List.length_cons, List.length_nil]; omega)) rfl rfl) rfl rfl ?_
              refine zst 98 rfl (by kernel_rfl) rfl (yb (nd_f fk3) (yi_neq rfl rfl rfl)) rfl rfl ?_
              refine zsa rfl (y_pick false rfl rfl rfl) rfl rfl ?_
              refine zsa rfl (y_move rfl rfl) rfl rfl ?_
              refine zst 109 rfl (by kernel_rfl) rfl (y_move rfl rfl) rfl rfl ?_
              refine zst 109 rfl (by kernel_rfl) rfl (y_move rfl rfl) rfl rfl ?_
              refine zst 109 rfl (by kernel_rfl) rfl (y_ixT (i := t) (iI := ((t : Nat) : Int)) hc (by omega) (by first | omega | (simp only [List.length_append, List.length_cons, List.length_nil]; omega)) rfl rfl rfl) rfl rfl ?_
              refine zst 109 rfl (by kernel_rfl) rfl (y_ldT (i := t) hc (by first | omega | (simp only [List.length_append, List.length_cons, List.length_nil]; omega)) rfl rfl) rfl rfl ?_
              refine zst 109 rfl (by kernel_rfl) rfl (y_move rfl rfl) rfl rfl ?_
              have h := h.below (hw14.mono (by omega))
              have h := h.below (dW16.mono (by omega))
              refine zst 109 rfl (by kernel_rfl) rfl (y_lenM (el := 36) h.len (by kernel_rfl) rfl rfl) rfl rfl ?_
              have u := u.trans (hw14.mono u.size)
              have u := u.trans (dW16.mono u.size)
              refine zst 109 rfl (by kernel_rfl) rfl (y_call (sibling_any ((copI (2 * i) (Ls.length : Int)).getD t 0) (Ls.length : Int) _ (rg.up u)) (by kernel_rfl) rfl rfl) rfl rfl ?_
              refine zst 109 rfl (by kernel_rfl) rfl (yb (decide_eq_false (show ¬ ((sibI ((copI (2 * i) (Ls.length : Int)).getD t 0) (Ls.length : Int)) < 0) from (by have := (cop_node hN (show t < (copI (2 * i) (Ls.length : Int)).length by omega)).2; omega))) (yi_lss rfl rfl rfl)) rfl rfl ?_
              refine zsa rfl (y_pick false rfl rfl rfl) rfl rfl ?_
              refine sg_nil ?_
              refine nx (zk5 0 5 6 7 8 rfl rfl rfl rfl rfl (zk3 9 10 11 rfl rfl rfl (zk1 118 rfl fn))) ?_
              refine cg_cf rfl ?_
              refine cg_skip ?_
              refine nx (zk5 0 5 6 7 8 rfl rfl rfl rfl rfl (zk3 9 10 11 rfl rfl rfl fn)) ?_
              refine cg_region ?_
              refine zM rfl rfl rfl rfl rfl ?_
              refine za rfl (yv (congrArg nv (show ((K : Nat) : Int) + 1 = ((K + 1 : Nat) : Int) by omega)) (yi_add rfl rfl rfl (by omega) (by omega))) rfl rfl ?_
              refine zA rfl rfl rfl rfl rfl ?_
              refine lg_nil ?_
              refine eg_block_norm ?_
              refine nx (zk5 0 5 6 7 8 rfl rfl rfl rfl rfl (zk3 9 11 10 rfl rfl rfl fn)) ?_
              refine cg_region ?_
              refine zM rfl rfl rfl rfl rfl ?_
              refine za rfl (yv (congrArg nv (show ((t : Nat) : Int) + 1 = ((t + 1 : Nat) : Int) by omega)) (yi_add rfl rfl rfl (by omega) (by omega))) rfl rfl ?_
              refine zA rfl rfl rfl rfl rfl ?_
              refine lg_nil ?_
              have cC := (show C ≤ w14.heap.size by omega)
              have cC := (show C ≤ W16.heap.size by omega)
              have cW := cW
              have cW := cW
              exact fun a ha => (show t < ((dirI (2 * i) (Ls.length : Int)).length + 1) ∧ _ from ⟨(by omega), (K + 1), ha.keep (fk rfl (fk rfl (fk rfl (fk rfl (fk rfl (fk rfl (fk rfl (fk rfl fn)))))))), h, u, cC, cW, hf, hb, hd, hc, (by rw [hK, (wayP_at hN (show t < (dirI (2 * i) (Ls.length : Int)).length by omega)), forkF_yes (p := ((dirI (2 * i) (Ls.length : Int)).getD t 0, (copI (2 * i) (Ls.length : Int)).getD t 0)) hh, List.length_append]; rfl), (by omega)⟩)
          · refine za rfl (yb (decide_eq_false c13) (yi_lss rfl rfl rfl)) rfl rfl ?_
            refine lg_nil ?_
            refine nx (zk5 0 5 6 7 8 rfl rfl rfl rfl rfl (zk3 9 10 11 rfl rfl rfl (zk1 60 rfl fn))) ?_
            refine cg_cf rfl ?_
            obtain rfl : t = (dirI (2 * i) (Ls.length : Int)).length := by omega
            rw [List.take_of_length_le (by omega)] at hK
            have lf1 : ((forkF Ls (wayP Ls i)).map Prod.fst).length = (forkF Ls (wayP Ls i)).length := List.length_map _
            have lf2 : ((forkF Ls (wayP Ls i)).map Prod.snd).length = (forkF Ls (wayP Ls i)).length := List.length_map _
            refine cg_exit ?_
            refine eg_seq_exit ?_
            refine eg_seq_exit ?_
            refine eg_block_exit ?_
            refine nx (zk3 5 6 7 rfl rfl rfl (zk1 10 rfl fn)) ?_
            refine cg_seq ?_
            refine cg_region ?_
            refine zM rfl rfl rfl rfl rfl ?_
            refine zM rfl rfl rfl rfl rfl ?_
            refine zt 122 rfl (by kernel_rfl) rfl (y_move rfl rfl) rfl rfl ?_
            refine zt 122 rfl (by kernel_rfl) rfl (y_lenM (el := 3) hf.len (by kernel_rfl) rfl rfl) rfl rfl ?_
            refine zt 122 rfl (by kernel_rfl) rfl (y_move rfl rfl) rfl rfl ?_
            refine zt 122 rfl (by kernel_rfl) rfl (yb (decide_eq_true (show (((forkF Ls (wayP Ls i)).map Prod.fst).length : Int) = ((K : Nat) : Int) from (by omega))) (yi_eql rfl rfl rfl)) rfl rfl ?_
            refine za rfl (y_pick true rfl rfl rfl) rfl rfl ?_
            refine zM rfl rfl rfl rfl rfl ?_
            refine zt 128 rfl (by kernel_rfl) rfl (y_move rfl rfl) rfl rfl ?_
            refine zt 128 rfl (by kernel_rfl) rfl (y_lenM (el := 3) hb.len (by kernel_rfl) rfl rfl) rfl rfl ?_
            refine zt 128 rfl (by kernel_rfl) rfl (y_move rfl rfl) rfl rfl ?_
            refine zt 128 rfl (by kernel_rfl) rfl (yb (decide_eq_true (show (((forkF Ls (wayP Ls i)).map Prod.snd).length : Int) = ((K : Nat) : Int) from (by omega))) (yi_eql rfl rfl rfl)) rfl rfl ?_
            refine za rfl (y_pick true rfl rfl rfl) rfl rfl ?_
            refine zA rfl rfl rfl rfl rfl ?_
            refine lg_nil ?_
            refine nx (zk1 4 rfl fn) ?_
            refine cg_ret ?_
            exact eg_ret_tmp rfl rfl ⟨_, rfl, rfl, u⟩
    · refine lg_callw (want_t (dj := 16) (by rfl) (by kernel_rfl) rfl) (sane_any (h.more (B' := w3.heap.size) (by omega)) (Nat.le_refl _)) (by kernel_rfl) rfl rfl rfl (by decide) ?_
      rintro u17 w17 ⟨e17, hw17⟩
      have zw17 := hw17.size
      obtain rfl : u17 = .bool false := e17.trans (congrArg Value.bool (decide_eq_false c4))
      refine zt 16 rfl (by kernel_rfl) rfl (y_bnot rfl rfl) rfl rfl ?_
      refine za rfl (y_pick false rfl rfl rfl) rfl rfl ?_
      refine lg_nil ?_
      refine nx (zk5 0 1 4 5 20 rfl rfl rfl rfl rfl fn) ?_
      refine cg_ct rfl ?_
      refine cg_seq ?_
      refine cg_region ?_
      refine zM rfl rfl rfl rfl rfl ?_
      refine zA rfl rfl rfl rfl rfl ?_
      refine lg_nil ?_
      refine nx (zk3 0 1 5 rfl rfl rfl (zk1 4 rfl fn)) ?_
      refine cg_ret ?_
      refine eg_seq_ret ?_
      have u := u.trans (hw1.mono u.size)
      have u := u.trans (hw3.mono u.size)
      have u := u.trans (hw17.mono u.size)
      exact eg_ret_tmp rfl rfl ⟨_, rfl, rfl, u⟩
  · refine lg_callw (want_none (by rfl)) (fewR_any (h.more (B' := w1.heap.size) (by omega)) (Nat.le_refl _)) (by kernel_rfl) rfl rfl rfl (by decide) ?_
    rintro u18 w18 ⟨e18, hw18⟩
    have zw18 := hw18.size
    obtain rfl : u18 = .bool false := e18.trans (congrArg Value.bool (decide_eq_false c2))
    refine za rfl (y_bnot rfl rfl) rfl rfl ?_
    refine zM rfl rfl rfl rfl rfl ?_
    refine zf 16 rfl (by kernel_rfl) rfl rfl rfl ?_
    refine zf 16 rfl (by kernel_rfl) rfl rfl rfl ?_
    refine zf 16 rfl (by kernel_rfl) rfl rfl rfl ?_
    refine za rfl (y_pick true rfl rfl rfl) rfl rfl ?_
    refine lg_nil ?_
    refine nx (zk5 0 1 4 5 20 rfl rfl rfl rfl rfl fn) ?_
    refine cg_ct rfl ?_
    refine cg_seq ?_
    refine cg_region ?_
    refine zM rfl rfl rfl rfl rfl ?_
    refine zA rfl rfl rfl rfl rfl ?_
    refine lg_nil ?_
    refine nx (zk3 0 1 5 rfl rfl rfl (zk1 4 rfl fn)) ?_
    refine cg_ret ?_
    refine eg_seq_ret ?_
    have u := u.trans (hw1.mono u.size)
    have u := u.trans (hw18.mono u.size)
    exact eg_ret_tmp rfl rfl ⟨_, rfl, rfl, u⟩
end Go.Proofs.YtjcnfmmekpiliaaDoor
