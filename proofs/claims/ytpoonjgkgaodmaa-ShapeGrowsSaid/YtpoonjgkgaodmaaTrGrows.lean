/-
  What has grown is the same ahead.
-/
import Derived.Test.YtpoonjgkgaodmaaTrAwake
namespace Go.Proofs.Ytpoonjgkgaodmaa
open Go.ChangeShapes Go.WideShapes Go.ChangeAt Go.RowKit
set_option linter.unusedVariables false

theorem grow_at {a : List Nd} (h : growE a = 0) (j : Nat) : atN (growL a) j = atN (trAs a) j := by rw [growL_ok h, atN_app_z]
theorem grow_last {a : List Nd} (h : growE a = 0) : lastA (trAs (growL a)) = lastA (trAs a) := by
  rw [trAs_ok (trIs_growL a)]
  have hl := growL_len h
  rcases lastA_is (trAs a) with ⟨e, f⟩ | ⟨j, e, h1, h2, h3⟩
  · rw [e]
    refine lastA_no fun j hj => ?_
    rw [grow_at h]
    by_cases q : j < (trAs a).length
    · exact f j q
    · rw [atN_none (by omega)]
  · rw [e]
    refine lastA_one (by omega) (by rw [grow_at h]; exact h2) fun q h4 h5 => ?_
    rw [grow_at h]
    by_cases r : q < (trAs a).length
    · exact h3 q h4 r
    · rw [atN_none (by omega)]
theorem grow_free1 {a : List Nd} (h : growE a = 0) (f : freeA (trAs a) < 0) : freeA (trAs (growL a)) = ((leavesA (trAs a) : Nat) : Int) := by
  rw [trAs_ok (trIs_growL a)]
  have hl := growL_len h
  have e1 : leavesA (growL a) = ((growL a).length + 1) / 2 := rfl
  have e2 : leavesA (trAs a) = ((trAs a).length + 1) / 2 := rfl
  have ht := trIs_len (trAs_is a)
  rcases freeA_is (trAs a) with ⟨e, g⟩ | ⟨j, e, _⟩
  · refine freeA_one (by omega) ?_ fun q hq => ?_
    · rw [grow_at h, atN_none (by omega)]
    · rw [grow_at h]
      exact g q hq
  · omega
theorem grow_free2 {a : List Nd} (h : growE a = 0) (f : ¬ freeA (trAs a) < 0) : freeA (trAs (growL a)) = freeA (trAs a) := by
  rw [trAs_ok (trIs_growL a)]
  have hl := growL_len h
  have e1 : leavesA (growL a) = ((growL a).length + 1) / 2 := rfl
  have e2 : leavesA (trAs a) = ((trAs a).length + 1) / 2 := rfl
  rcases freeA_is (trAs a) with ⟨e, g⟩ | ⟨j, e, h1, h2, h3⟩
  · omega
  · rw [e]
    refine freeA_one (by omega) (by rw [grow_at h]; exact h2) fun q hq => ?_
    rw [grow_at h]
    exact h3 q hq
theorem grow_behind {a : List Nd} {j : Nat} {M : Nd} (h : growE a = 0) (hj : (trAs a).length ≤ j) (e : (growL a)[j]? = some M) : M.kind = 0 := by
  have h2 := grow_at h j
  rw [atN_some e, atN_none hj] at h2
  rw [h2]
set_option maxHeartbeats 4000000 in
theorem shapeGrows_any {W : World} {s : SlV} {Ls : List Nd} (h : RwNd W W.heap.size s Ls) : Calls Try.prog 6 #[s.v] W fun e W' => ∃ v, e = .returned v ∧ v = .bool true ∧ Below W.heap.size W W' := by
  refine calls_cg (n := 101) Try.func6 rfl Try.ntmps6 (by simp) ?_
  show CG _ _ _ [(0, s.v)] _ _
  have u := Below.refl W.heap.size W
  have q1 := h.len
  have q2 := h.cap
  refine cg_seq ?_
  refine cg_region ?_
  refine lsw (want_none (by rfl)) (y_assign rfl rfl) rfl (by decide) ?_
  refine lg_nil ?_
  refine nx (E' := [(0, _), (2, _)]) (fk rfl (fk rfl fn)) ?_
  refine cg_seq ?_
  refine cg_region ?_
  refine lg_callw (want_none (by rfl)) (awakeT_any _) (by kernel_rfl) rfl rfl rfl (by decide) ?_
  rintro _ w1 ⟨rfl, hw1⟩
  have zw1 := hw1.size
  refine lsw (want_none (by rfl)) (y_assign rfl rfl) rfl (by decide) ?_
  refine lg_nil ?_
  refine nx (E' := [(0, _), (2, _), (3, _)]) (fk rfl (fk rfl (fk rfl fn))) ?_
  refine cg_seq ?_
  refine cg_seq ?_
  refine cg_region ?_
  refine lsw (want_none (by rfl)) (y_move rfl rfl) rfl (by decide) ?_
  have h := h.below (hw1.mono (by omega))
  by_cases c2 : trFew Ls
  · refine lg_callw (want_none (by rfl)) (fewR_any (h.more (B' := w1.heap.size) (by omega)) (Nat.le_refl _)) (by kernel_rfl) rfl rfl rfl (by decide) ?_
    rintro u3 w3 ⟨e3, hw3⟩
    have zw3 := hw3.size
    obtain rfl : u3 = .bool true := e3.trans (congrArg Value.bool (decide_eq_true c2))
    refine lsw (want_none (by rfl)) (y_bnot rfl rfl) rfl (by decide) ?_
    refine lsw (want_none (by rfl)) (y_move rfl rfl) rfl (by decide) ?_
    refine lsw (want_t (dj := 11) (by rfl) (by kernel_rfl) rfl) (y_move rfl rfl) rfl (by decide) ?_
    have h := h.below (hw3.mono (by omega))
    by_cases c4 : trIs Ls
    · have htr := c4
      have htl := trIs_le htr
      have hta := trAs_ok htr
      refine lg_callw (want_t (dj := 11) (by rfl) (by kernel_rfl) rfl) (sane_any (h.more (B' := w3.heap.size) (by omega)) (Nat.le_refl _)) (by kernel_rfl) rfl rfl rfl (by decide) ?_
      rintro u5 w5 ⟨e5, hw5⟩
      have zw5 := hw5.size
      obtain rfl : u5 = .bool true := e5.trans (congrArg Value.bool (decide_eq_true c4))
      refine lsw (want_t (dj := 11) (by rfl) (by kernel_rfl) rfl) (y_bnot rfl rfl) rfl (by decide) ?_
      refine lsw (want_none (by rfl)) (y_pick false rfl rfl rfl) rfl (by decide) ?_
      refine lg_nil ?_
      refine nx (E' := [(0, _), (2, _), (3, _), (15, _)]) (fk rfl (fk rfl (fk rfl (fk rfl fn)))) ?_
      refine cg_cf rfl ?_
      refine cg_skip ?_
      refine nx (E' := [(0, _), (2, _), (3, _)]) (fk rfl (fk rfl (fk rfl fn))) ?_
      refine cg_seq ?_
      refine cg_region ?_
      refine lsw (want_none (by rfl)) (y_move rfl rfl) rfl (by decide) ?_
      have h := h.below (hw5.mono (by omega))
      refine lg_callw (want_none (by rfl)) (grow_any (h.more (B' := w5.heap.size) (by omega)) (Nat.le_refl _)) (by kernel_rfl) rfl rfl rfl (by decide) ?_
      rintro _ w6 ⟨s6, rfl, m6, hw6⟩
      have zw6 := hw6.size
      refine lsw (want_none (by rfl)) (y_move rfl rfl) rfl (by decide) ?_
      refine lsw (want_none (by rfl)) (y_extract rfl rfl rfl) rfl (by decide) ?_
      refine lsw (want_none (by rfl)) (y_extract rfl rfl rfl) rfl (by decide) ?_
      refine lsw (want_none (by rfl)) (y_assign rfl rfl) rfl (by decide) ?_
      refine lsw (want_none (by rfl)) (y_assign rfl rfl) rfl (by decide) ?_
      refine lg_nil ?_
      refine nx (E' := [(0, _), (2, _), (3, _), (4, _), (5, _)]) (fk rfl (fk rfl (fk rfl (fk rfl (fk rfl fn))))) ?_
      refine cg_seq ?_
      refine cg_seq ?_
      refine cg_region ?_
      refine lsw (want_none (by rfl)) (y_move rfl rfl) rfl (by decide) ?_
      have h := h.below (hw6.mono (by omega))
      refine lg_callw (want_none (by rfl)) (leavesT_any (h.more (B' := w6.heap.size) (by omega)) (Nat.le_refl _)) (by kernel_rfl) rfl rfl rfl (by decide) ?_
      rintro _ w7 ⟨rfl, hw7⟩
      have zw7 := hw7.size
      by_cases c8 : ((leavesA (trAs Ls) : Nat) : Int) = 64
      · refine lsw (want_none (by rfl)) (yb (decide_eq_true c8) (yi_eql rfl rfl rfl)) rfl (by decide) ?_
        refine lg_nil ?_
        refine nx (E' := [(0, _), (2, _), (3, _), (4, _), (5, _), (24, _)]) (fk rfl (fk rfl (fk rfl (fk rfl (fk rfl (fk rfl fn)))))) ?_
        refine cg_ct rfl ?_
        refine cg_seq ?_
        refine cg_region ?_
        refine lsw (want_none (by rfl)) (y_move rfl rfl) rfl (by decide) ?_
        refine lsw (want_none (by rfl)) (y_move rfl rfl) rfl (by decide) ?_
        refine lsw (want_t (dj := 26) (by rfl) (by kernel_rfl) rfl) (y_move rfl rfl) rfl (by decide) ?_
        refine lsw (want_t (dj := 26) (by rfl) (by kernel_rfl) rfl) (yb (decide_eq_true (show (growE Ls) = 10 from (growE_64 c8))) (yi_eql rfl rfl rfl)) rfl (by decide) ?_
        refine lsw (want_none (by rfl)) (y_pick true rfl rfl rfl) rfl (by decide) ?_
        refine lsw (want_none (by rfl)) (y_move rfl rfl) rfl (by decide) ?_
        refine lsw (want_t (dj := 30) (by rfl) (by kernel_rfl) rfl) (y_move rfl rfl) rfl (by decide) ?_
        have m6 := m6.below (hw7.mono (by omega))
        refine lsw (want_t (dj := 30) (by rfl) (by kernel_rfl) rfl) (y_lenM (el := 37) m6.len (by kernel_rfl) rfl rfl) rfl (by decide) ?_
        refine lsw (want_t (dj := 30) (by rfl) (by kernel_rfl) rfl) (yb (decide_eq_true (show ((growL Ls).length : Int) = 0 from (by rw [growL_no (by rw [growE_64 c8]; decide)]; rfl))) (yi_eql rfl rfl rfl)) rfl (by decide) ?_
        refine lsw (want_none (by rfl)) (y_pick true rfl rfl rfl) rfl (by decide) ?_
        refine lsw (want_none (by rfl)) (y_assign rfl rfl) rfl (by decide) ?_
        refine lg_nil ?_
        refine nx (E' := [(0, _), (3, _), (4, _), (5, _), (2, _)]) (fk rfl (fk rfl (fk rfl (fk rfl (fk rfl fn))))) ?_
        refine cg_ret ?_
        refine eg_seq_ret ?_
        have u := u.trans (hw1.mono u.size)
        have u := u.trans (hw3.mono u.size)
        have u := u.trans (hw5.mono u.size)
        have u := u.trans (hw6.mono u.size)
        have u := u.trans (hw7.mono u.size)
        exact eg_ret_tmp rfl rfl ⟨_, rfl, rfl, u⟩
      · have g0 := growE_0 c8
        have gl := growL_len g0
        rw [hta] at gl
        have gs := grow_small g0
        refine lsw (want_none (by rfl)) (yb (decide_eq_false c8) (yi_eql rfl rfl rfl)) rfl (by decide) ?_
        refine lg_nil ?_
        refine nx (E' := [(0, _), (2, _), (3, _), (4, _), (5, _), (24, _)]) (fk rfl (fk rfl (fk rfl (fk rfl (fk rfl (fk rfl fn)))))) ?_
        refine cg_cf rfl ?_
        refine cg_skip ?_
        refine nx (E' := [(0, _), (2, _), (3, _), (4, _), (5, _)]) (fk rfl (fk rfl (fk rfl (fk rfl (fk rfl fn))))) ?_
        refine cg_seq ?_
        refine cg_seq ?_
        refine cg_region ?_
        refine lsw (want_none (by rfl)) (y_move rfl rfl) rfl (by decide) ?_
        refine lsw (want_none (by rfl)) (yb (nd_f g0) (yi_neq rfl rfl rfl)) rfl (by decide) ?_
        refine lsw (want_none (by rfl)) (y_move rfl rfl) rfl (by decide) ?_
        refine lsw (want_t (dj := 37) (by rfl) (by kernel_rfl) rfl) (y_move rfl rfl) rfl (by decide) ?_
        have m6 := m6.below (hw7.mono (by omega))
        refine lsw (want_t (dj := 37) (by rfl) (by kernel_rfl) rfl) (y_lenM (el := 37) m6.len (by kernel_rfl) rfl rfl) rfl (by decide) ?_
        refine lsw (want_t (dj := 37) (by rfl) (by kernel_rfl) rfl) (y_move rfl rfl) rfl (by decide) ?_
        have h := h.below (hw7.mono (by omega))
        refine lsw (want_t (dj := 37) (by rfl) (by kernel_rfl) rfl) (y_lenM (el := 37) h.len (by kernel_rfl) rfl rfl) rfl (by decide) ?_
        refine lsw (want_t (dj := 37) (by rfl) (by kernel_rfl) rfl) (yi_mul rfl rfl rfl (by omega) (by omega)) rfl (by decide) ?_
        refine lsw (want_t (dj := 37) (by rfl) (by kernel_rfl) rfl) (yi_add rfl rfl rfl (by omega) (by omega)) rfl (by decide) ?_
        refine lsw (want_t (dj := 37) (by rfl) (by kernel_rfl) rfl) (yb (nd_f (show ((growL Ls).length : Int) = ((2 * (Ls.length : Int)) + 1) from (by omega))) (yi_neq rfl rfl rfl)) rfl (by decide) ?_
        refine lsw (want_none (by rfl)) (y_pick false rfl rfl rfl) rfl (by decide) ?_
        refine lsw (want_none (by rfl)) (y_move rfl rfl) rfl (by decide) ?_
        refine lsw (want_t (dj := 46) (by rfl) (by kernel_rfl) rfl) (y_move rfl rfl) rfl (by decide) ?_
        refine lsw (want_t (dj := 46) (by rfl) (by kernel_rfl) rfl) (y_move rfl rfl) rfl (by decide) ?_
        refine lsw (want_t (dj := 46) (by rfl) (by kernel_rfl) rfl) (y_lenM (el := 37) h.len (by kernel_rfl) rfl rfl) rfl (by decide) ?_
        have cu9 := RwNd.cast (Ms := Ls) (m6.cut 0 Ls.length s6.c (by have q1 := m6.len; have q2 := m6.cap; omega) (by have q1 := m6.len; have q2 := m6.cap; omega) (by have q1 := m6.len; have q2 := m6.cap; omega) (by have q1 := m6.len; have q2 := m6.cap; omega)) (by rw [List.drop_zero, growL_ok g0, hta]; exact List.take_left' rfl)
        refine lsw (want_t (dj := 46) (by rfl) (by kernel_rfl) rfl) (y_cutR_h (s := s6) Ls.length (hi := (Ls.length : Int)) (by have q1 := m6.len; have q2 := m6.cap; omega) (by have q1 := m6.len; have q2 := m6.cap; omega) rfl rfl rfl) rfl (by decide) ?_
        refine lsw (want_t (dj := 46) (by rfl) (by kernel_rfl) rfl) (y_move rfl rfl) rfl (by decide) ?_
        refine lg_callw (want_t (dj := 46) (by rfl) (by kernel_rfl) rfl) (sameR_any (cu9.more (B' := w7.heap.size) (by omega)) (h.more (B' := w7.heap.size) (by omega)) (Nat.le_refl _)) (by kernel_rfl) rfl rfl rfl (by decide) ?_
        rintro u10 w10 ⟨e10, hw10⟩
        have zw10 := hw10.size
        obtain rfl : u10 = .bool true := e10.trans (congrArg Value.bool (decide_eq_true (tr_same _)))
        refine lsw (want_t (dj := 46) (by rfl) (by kernel_rfl) rfl) (y_bnot rfl rfl) rfl (by decide) ?_
        refine lsw (want_none (by rfl)) (y_pick false rfl rfl rfl) rfl (by decide) ?_
        refine lg_nil ?_
        refine nx (E' := [(0, _), (2, _), (3, _), (4, _), (54, _)]) (fk rfl (fk rfl (fk rfl (fk rfl (fk rfl fn))))) ?_
        refine cg_cf rfl ?_
        refine cg_skip ?_
        refine nx (E' := [(0, _), (2, _), (3, _), (4, _)]) (fk rfl (fk rfl (fk rfl (fk rfl fn)))) ?_
        refine cg_seq ?_
        refine cg_seq ?_
        refine cg_region ?_
        refine lsw (want_none (by rfl)) (y_move rfl rfl) rfl (by decide) ?_
        have h := h.below (hw10.mono (by omega))
        refine lsw (want_none (by rfl)) (yv (congrArg nv (show (Ls.length : Int) = ((Ls.length + 0 : Nat) : Int) by omega)) (y_lenM (el := 37) h.len (by kernel_rfl) rfl rfl)) rfl (by decide) ?_
        refine lsw (want_none (by rfl)) (y_assign rfl rfl) rfl (by decide) ?_
        refine lg_nil ?_
        refine nx (E' := [(0, _), (2, _), (3, _), (4, _), (6, _)]) (fk rfl (fk rfl (fk rfl (fk rfl (fk rfl fn))))) ?_
        refine cg_block ?_
        obtain ⟨C, hC⟩ : ∃ q, q = w10.heap.size := ⟨_, rfl⟩
        have m6 := m6.below (hw10.mono (by omega))
        have u := u.trans (hw1.mono u.size)
        have u := u.trans (hw3.mono u.size)
        have u := u.trans (hw5.mono u.size)
        have u := u.trans (hw6.mono u.size)
        have u := u.trans (hw7.mono u.size)
        have u := u.trans (hw10.mono u.size)
        refine cg_loopE (fun t a v => ∃ (r : SlV), Holds 101 [(0, s.v), (3, .bool true), (4, r.v), (6, nv ((Ls.length + t : Nat) : Int))] a ∧ RwNd v W.heap.size s Ls ∧ RwNd v C r (growL Ls) ∧ C ≤ v.heap.size ∧ Below W.heap.size W v) (Ls.length + 2) (fun a ha => ⟨s6, ha.keep (fk rfl (fk rfl (fk rfl (fk rfl fn)))), h, (m6.more (by omega)), (Nat.le_of_eq hC), u⟩) ?_
        rintro t a v ht ⟨r, ha, h, hr, hC2, u⟩
        refine cg_at ha ?_
        clear ha a
        have zv := u.size
        have q1 := h.len
        have q2 := h.cap
        have q3 := hr.len
        have q4 := hr.cap
        refine cg_seq ?_
        refine cg_seq ?_
        refine cg_region ?_
        refine lsw (want_none (by rfl)) (y_move rfl rfl) rfl (by decide) ?_
        refine lsw (want_none (by rfl)) (y_move rfl rfl) rfl (by decide) ?_
        refine lsw (want_none (by rfl)) (y_lenM (el := 37) hr.len (by kernel_rfl) rfl rfl) rfl (by decide) ?_
        by_cases c11 : ((Ls.length + t : Nat) : Int) < ((growL Ls).length : Int)
        · refine lsw (want_none (by rfl)) (yb (decide_eq_true c11) (yi_lss rfl rfl rfl)) rfl (by decide) ?_
          refine lg_nil ?_
          refine nx (E' := [(0, _), (3, _), (4, _), (6, _), (57, _), (58, _), (59, _), (60, _)]) (fk rfl (fk rfl (fk rfl (fk rfl (fk rfl (fk rfl (fk rfl (fk rfl fn)))))))) ?_
          refine cg_ct rfl ?_
          refine cg_skip ?_
          refine nx (E' := [(0, _), (3, _), (4, _), (6, _), (57, _), (58, _), (59, _), (60, _)]) (fk rfl (fk rfl (fk rfl (fk rfl (fk rfl (fk rfl (fk rfl (fk rfl fn)))))))) ?_
          refine cg_seq ?_
          refine cg_block ?_
          refine cg_seq ?_
          refine cg_region ?_
          refine lsw (want_none (by rfl)) (y_move rfl rfl) rfl (by decide) ?_
          refine lsw (want_none (by rfl)) (y_move rfl rfl) rfl (by decide) ?_
          obtain ⟨eb12, eo12, el12, eL12, eA12, eB12, eg12, eh12, ec12⟩ := hr.at ((Ls.length + t)) (by have := hr.len; omega)
          refine lsw (want_none (by rfl)) (y_ixR (s := r) (el := 37) (k := 8) (i := (Ls.length + t)) (iI := ((Ls.length + t : Nat) : Int)) eA12 (by kernel_rfl) (by kernel_rfl) (by omega) (by have := hr.len; omega) rfl rfl rfl) rfl (by decide) ?_
          refine lsw (want_none (by rfl)) (y_fld (off := 0) (by kernel_rfl) rfl rfl) rfl (by decide) ?_
          refine lsw (want_none (by rfl)) (y_celld (ec12 0 _ rfl) (by kernel_rfl) rfl rfl) rfl (by decide) ?_
          refine lsw (want_none (by rfl)) (yb (nd_f (show eL12.kind = 0 from (grow_behind g0 (by rw [hta]; omega) eg12))) (yi_neq rfl rfl rfl)) rfl (by decide) ?_
          refine lg_nil ?_
          refine nx (E' := [(0, _), (3, _), (4, _), (6, _), (57, _), (58, _), (59, _), (60, _), (63, _), (64, _), (65, _), (66, _), (67, _), (68, _)]) (fk rfl (fk rfl (fk rfl (fk rfl (fk rfl (fk rfl (fk rfl (fk rfl (fk rfl (fk rfl (fk rfl (fk rfl (fk rfl (fk rfl fn)))))))))))))) ?_
          refine cg_cf rfl ?_
          refine cg_skip ?_
          refine eg_block_norm ?_
          refine nx (E' := [(0, _), (3, _), (4, _), (6, _), (57, _), (58, _), (59, _), (60, _), (63, _), (64, _), (65, _), (66, _), (67, _), (68, _)]) (fk rfl (fk rfl (fk rfl (fk rfl (fk rfl (fk rfl (fk rfl (fk rfl (fk rfl (fk rfl (fk rfl (fk rfl (fk rfl (fk rfl fn)))))))))))))) ?_
          refine cg_region ?_
          refine lsw (want_none (by rfl)) (y_move rfl rfl) rfl (by decide) ?_
          refine lsw (want_none (by rfl)) (yv (congrArg nv (show ((Ls.length + t : Nat) : Int) + 1 = ((Ls.length + (t + 1) : Nat) : Int) by omega)) (yi_add rfl rfl rfl (by omega) (by omega))) rfl (by decide) ?_
          refine lsw (want_none (by rfl)) (y_assign rfl rfl) rfl (by decide) ?_
          refine lg_nil ?_
          exact fun a ha => (show t < (Ls.length + 2) ∧ _ from ⟨(by omega), r, ha.keep (fk rfl (fk rfl (fk rfl (fk rfl fn)))), h, hr, hC2, u⟩)
        · refine lsw (want_none (by rfl)) (yb (decide_eq_false c11) (yi_lss rfl rfl rfl)) rfl (by decide) ?_
          refine lg_nil ?_
          refine nx (E' := [(0, _), (3, _), (4, _), (6, _), (57, _), (58, _), (59, _), (60, _)]) (fk rfl (fk rfl (fk rfl (fk rfl (fk rfl (fk rfl (fk rfl (fk rfl fn)))))))) ?_
          refine cg_cf rfl ?_
          refine cg_exit ?_
          refine eg_seq_exit ?_
          refine eg_seq_exit ?_
          refine eg_block_exit ?_
          refine nx (E' := [(0, _), (3, _), (4, _)]) (fk rfl (fk rfl (fk rfl fn))) ?_
          refine cg_seq ?_
          refine cg_region ?_
          refine lsw (want_none (by rfl)) (y_move rfl rfl) rfl (by decide) ?_
          refine lsw (want_none (by rfl)) (y_move rfl rfl) rfl (by decide) ?_
          refine lsw (want_t (dj := 70) (by rfl) (by kernel_rfl) rfl) (y_move rfl rfl) rfl (by decide) ?_
          refine lg_callw (want_t (dj := 70) (by rfl) (by kernel_rfl) rfl) (last_any (hr.more (B' := v.heap.size) (by omega)) (Nat.le_refl _)) (by kernel_rfl) rfl rfl rfl (by decide) ?_
          rintro _ w13 ⟨rfl, hw13⟩
          have zw13 := hw13.size
          refine lsw (want_t (dj := 70) (by rfl) (by kernel_rfl) rfl) (y_move rfl rfl) rfl (by decide) ?_
          have h := h.below (hw13.mono (by omega))
          refine lg_callw (want_t (dj := 70) (by rfl) (by kernel_rfl) rfl) (last_any (h.more (B' := w13.heap.size) (by omega)) (Nat.le_refl _)) (by kernel_rfl) rfl rfl rfl (by decide) ?_
          rintro _ w14 ⟨rfl, hw14⟩
          have zw14 := hw14.size
          refine lsw (want_t (dj := 70) (by rfl) (by kernel_rfl) rfl) (yb (decide_eq_true (show (lastA (trAs (growL Ls))) = (lastA (trAs Ls)) from (grow_last g0))) (yi_eql rfl rfl rfl)) rfl (by decide) ?_
          refine lsw (want_none (by rfl)) (y_pick true rfl rfl rfl) rfl (by decide) ?_
          refine lsw (want_none (by rfl)) (y_move rfl rfl) rfl (by decide) ?_
          refine lsw (want_t (dj := 77) (by rfl) (by kernel_rfl) rfl) (y_move rfl rfl) rfl (by decide) ?_
          have h := h.below (hw14.mono (by omega))
          refine lg_callw (want_t (dj := 77) (by rfl) (by kernel_rfl) rfl) (free_any (h.more (B' := w14.heap.size) (by omega)) (Nat.le_refl _)) (by kernel_rfl) rfl rfl rfl (by decide) ?_
          rintro _ w15 ⟨rfl, hw15⟩
          have zw15 := hw15.size
          by_cases c16 : (freeA (trAs Ls)) < 0
          · refine lsw (want_t (dj := 77) (by rfl) (by kernel_rfl) rfl) (yb (decide_eq_true c16) (yi_lss rfl rfl rfl)) rfl (by decide) ?_
            refine lsw (want_t (dj := 77) (by rfl) (by kernel_rfl) rfl) (y_move rfl rfl) rfl (by decide) ?_
            refine lsw (want_t (dj := 81) (by rfl) (by kernel_rfl) rfl) (y_move rfl rfl) rfl (by decide) ?_
            have hr := hr.below (hw13.mono (by omega))
            have hr := hr.below (hw14.mono (by omega))
            have hr := hr.below (hw15.mono (by omega))
            refine lg_callw (want_t (dj := 81) (by rfl) (by kernel_rfl) rfl) (free_any (hr.more (B' := w15.heap.size) (by omega)) (Nat.le_refl _)) (by kernel_rfl) rfl rfl rfl (by decide) ?_
            rintro _ w17 ⟨rfl, hw17⟩
            have zw17 := hw17.size
            refine lsw (want_t (dj := 81) (by rfl) (by kernel_rfl) rfl) (y_move rfl rfl) rfl (by decide) ?_
            have h := h.below (hw15.mono (by omega))
            have h := h.below (hw17.mono (by omega))
            refine lg_callw (want_t (dj := 81) (by rfl) (by kernel_rfl) rfl) (leavesT_any (h.more (B' := w17.heap.size) (by omega)) (Nat.le_refl _)) (by kernel_rfl) rfl rfl rfl (by decide) ?_
            rintro _ w18 ⟨rfl, hw18⟩
            have zw18 := hw18.size
            refine lsw (want_t (dj := 81) (by rfl) (by kernel_rfl) rfl) (yb (decide_eq_true (show (freeA (trAs (growL Ls))) = ((leavesA (trAs Ls) : Nat) : Int) from (grow_free1 g0 c16))) (yi_eql rfl rfl rfl)) rfl (by decide) ?_
            refine lsw (want_t (dj := 77) (by rfl) (by kernel_rfl) rfl) (y_pick true rfl rfl rfl) rfl (by decide) ?_
            refine lsw (want_t (dj := 77) (by rfl) (by kernel_rfl) rfl) (y_move rfl rfl) rfl (by decide) ?_
            refine lsk (want_f (dj := 88) (by rfl) (by kernel_rfl) rfl) rfl (by decide) ?_
            refine lsk (want_f (dj := 88) (by rfl) (by kernel_rfl) rfl) rfl (by decide) ?_
            refine lsk (want_f (dj := 88) (by rfl) (by kernel_rfl) rfl) rfl (by decide) ?_
            refine lsk (want_f (dj := 88) (by rfl) (by kernel_rfl) rfl) rfl (by decide) ?_
            refine lsk (want_u (dj := 92) (by rfl) (by kernel_rfl) rfl) rfl (by decide) ?_
            refine lsk (want_u (dj := 92) (by rfl) (by kernel_rfl) rfl) rfl (by decide) ?_
            refine lsk (want_u (dj := 92) (by rfl) (by kernel_rfl) rfl) rfl (by decide) ?_
            refine lsk (want_u (dj := 92) (by rfl) (by kernel_rfl) rfl) rfl (by decide) ?_
            refine lsk (want_u (dj := 92) (by rfl) (by kernel_rfl) rfl) rfl (by decide) ?_
            refine lsk (want_f (dj := 88) (by rfl) (by kernel_rfl) rfl) rfl (by decide) ?_
            refine lsw (want_t (dj := 77) (by rfl) (by kernel_rfl) rfl) (y_pick true rfl rfl rfl) rfl (by decide) ?_
            refine lsw (want_none (by rfl)) (y_pick true rfl rfl rfl) rfl (by decide) ?_
            refine lsw (want_none (by rfl)) (y_assign rfl rfl) rfl (by decide) ?_
            refine lg_nil ?_
            refine nx (E' := [(2, _)]) (fk rfl fn) ?_
            refine cg_ret ?_
            have u := u.trans (hw13.mono u.size)
            have u := u.trans (hw14.mono u.size)
            have u := u.trans (hw15.mono u.size)
            have u := u.trans (hw17.mono u.size)
            have u := u.trans (hw18.mono u.size)
            exact eg_ret_tmp rfl rfl ⟨_, rfl, rfl, u⟩
          · refine lsw (want_t (dj := 77) (by rfl) (by kernel_rfl) rfl) (yb (decide_eq_false c16) (yi_lss rfl rfl rfl)) rfl (by decide) ?_
            refine lsw (want_t (dj := 77) (by rfl) (by kernel_rfl) rfl) (y_move rfl rfl) rfl (by decide) ?_
            refine lsk (want_f (dj := 81) (by rfl) (by kernel_rfl) rfl) rfl (by decide) ?_
            refine lsk (want_f (dj := 81) (by rfl) (by kernel_rfl) rfl) rfl (by decide) ?_
            refine lsk (want_f (dj := 81) (by rfl) (by kernel_rfl) rfl) rfl (by decide) ?_
            refine lsk (want_f (dj := 81) (by rfl) (by kernel_rfl) rfl) rfl (by decide) ?_
            refine lsk (want_f (dj := 81) (by rfl) (by kernel_rfl) rfl) rfl (by decide) ?_
            refine lsw (want_t (dj := 77) (by rfl) (by kernel_rfl) rfl) (y_pick false rfl rfl rfl) rfl (by decide) ?_
            refine lsw (want_t (dj := 77) (by rfl) (by kernel_rfl) rfl) (y_move rfl rfl) rfl (by decide) ?_
            refine lsw (want_t (dj := 88) (by rfl) (by kernel_rfl) rfl) (y_move rfl rfl) rfl (by decide) ?_
            have h := h.below (hw15.mono (by omega))
            refine lg_callw (want_t (dj := 88) (by rfl) (by kernel_rfl) rfl) (free_any (h.more (B' := w15.heap.size) (by omega)) (Nat.le_refl _)) (by kernel_rfl) rfl rfl rfl (by decide) ?_
            rintro _ w19 ⟨rfl, hw19⟩
            have zw19 := hw19.size
            refine lsw (want_t (dj := 88) (by rfl) (by kernel_rfl) rfl) (yb (decide_eq_true (show 0 ≤ (freeA (trAs Ls)) from (by omega))) (yi_geq rfl rfl rfl)) rfl (by decide) ?_
            refine lsw (want_t (dj := 88) (by rfl) (by kernel_rfl) rfl) (y_move rfl rfl) rfl (by decide) ?_
            refine lsw (want_t (dj := 92) (by rfl) (by kernel_rfl) rfl) (y_move rfl rfl) rfl (by decide) ?_
            have hr := hr.below (hw13.mono (by omega))
            have hr := hr.below (hw14.mono (by omega))
            have hr := hr.below (hw15.mono (by omega))
            have hr := hr.below (hw19.mono (by omega))
            refine lg_callw (want_t (dj := 92) (by rfl) (by kernel_rfl) rfl) (free_any (hr.more (B' := w19.heap.size) (by omega)) (Nat.le_refl _)) (by kernel_rfl) rfl rfl rfl (by decide) ?_
            rintro _ w20 ⟨rfl, hw20⟩
            have zw20 := hw20.size
            refine lsw (want_t (dj := 92) (by rfl) (by kernel_rfl) rfl) (y_move rfl rfl) rfl (by decide) ?_
            have h := h.below (hw19.mono (by omega))
            have h := h.below (hw20.mono (by omega))
            refine lg_callw (want_t (dj := 92) (by rfl) (by kernel_rfl) rfl) (free_any (h.more (B' := w20.heap.size) (by omega)) (Nat.le_refl _)) (by kernel_rfl) rfl rfl rfl (by decide) ?_
            rintro _ w21 ⟨rfl, hw21⟩
            have zw21 := hw21.size
            refine lsw (want_t (dj := 92) (by rfl) (by kernel_rfl) rfl) (yb (decide_eq_true (show (freeA (trAs (growL Ls))) = (freeA (trAs Ls)) from (grow_free2 g0 c16))) (yi_eql rfl rfl rfl)) rfl (by decide) ?_
            refine lsw (want_t (dj := 88) (by rfl) (by kernel_rfl) rfl) (y_pick true rfl rfl rfl) rfl (by decide) ?_
            refine lsw (want_t (dj := 77) (by rfl) (by kernel_rfl) rfl) (y_pick false rfl rfl rfl) rfl (by decide) ?_
            refine lsw (want_none (by rfl)) (y_pick true rfl rfl rfl) rfl (by decide) ?_
            refine lsw (want_none (by rfl)) (y_assign rfl rfl) rfl (by decide) ?_
            refine lg_nil ?_
            refine nx (E' := [(2, _)]) (fk rfl fn) ?_
            refine cg_ret ?_
            have u := u.trans (hw13.mono u.size)
            have u := u.trans (hw14.mono u.size)
            have u := u.trans (hw15.mono u.size)
            have u := u.trans (hw19.mono u.size)
            have u := u.trans (hw20.mono u.size)
            have u := u.trans (hw21.mono u.size)
            exact eg_ret_tmp rfl rfl ⟨_, rfl, rfl, u⟩
    · refine lg_callw (want_t (dj := 11) (by rfl) (by kernel_rfl) rfl) (sane_any (h.more (B' := w3.heap.size) (by omega)) (Nat.le_refl _)) (by kernel_rfl) rfl rfl rfl (by decide) ?_
      rintro u22 w22 ⟨e22, hw22⟩
      have zw22 := hw22.size
      obtain rfl : u22 = .bool false := e22.trans (congrArg Value.bool (decide_eq_false c4))
      refine lsw (want_t (dj := 11) (by rfl) (by kernel_rfl) rfl) (y_bnot rfl rfl) rfl (by decide) ?_
      refine lsw (want_none (by rfl)) (y_pick false rfl rfl rfl) rfl (by decide) ?_
      refine lg_nil ?_
      refine nx (E' := [(0, _), (2, _), (3, _), (15, _)]) (fk rfl (fk rfl (fk rfl (fk rfl fn)))) ?_
      refine cg_ct rfl ?_
      refine cg_seq ?_
      refine cg_region ?_
      refine lsw (want_none (by rfl)) (y_move rfl rfl) rfl (by decide) ?_
      refine lsw (want_none (by rfl)) (y_assign rfl rfl) rfl (by decide) ?_
      refine lg_nil ?_
      refine nx (E' := [(0, _), (3, _), (2, _)]) (fk rfl (fk rfl (fk rfl fn))) ?_
      refine cg_ret ?_
      refine eg_seq_ret ?_
      have u := u.trans (hw1.mono u.size)
      have u := u.trans (hw3.mono u.size)
      have u := u.trans (hw22.mono u.size)
      exact eg_ret_tmp rfl rfl ⟨_, rfl, rfl, u⟩
  · refine lg_callw (want_none (by rfl)) (fewR_any (h.more (B' := w1.heap.size) (by omega)) (Nat.le_refl _)) (by kernel_rfl) rfl rfl rfl (by decide) ?_
    rintro u23 w23 ⟨e23, hw23⟩
    have zw23 := hw23.size
    obtain rfl : u23 = .bool false := e23.trans (congrArg Value.bool (decide_eq_false c2))
    refine lsw (want_none (by rfl)) (y_bnot rfl rfl) rfl (by decide) ?_
    refine lsw (want_none (by rfl)) (y_move rfl rfl) rfl (by decide) ?_
    refine lsk (want_f (dj := 11) (by rfl) (by kernel_rfl) rfl) rfl (by decide) ?_
    refine lsk (want_f (dj := 11) (by rfl) (by kernel_rfl) rfl) rfl (by decide) ?_
    refine lsk (want_f (dj := 11) (by rfl) (by kernel_rfl) rfl) rfl (by decide) ?_
    refine lsw (want_none (by rfl)) (y_pick true rfl rfl rfl) rfl (by decide) ?_
    refine lg_nil ?_
    refine nx (E' := [(0, _), (2, _), (3, _), (15, _)]) (fk rfl (fk rfl (fk rfl (fk rfl fn)))) ?_
    refine cg_ct rfl ?_
    refine cg_seq ?_
    refine cg_region ?_
    refine lsw (want_none (by rfl)) (y_move rfl rfl) rfl (by decide) ?_
    refine lsw (want_none (by rfl)) (y_assign rfl rfl) rfl (by decide) ?_
    refine lg_nil ?_
    refine nx (E' := [(0, _), (3, _), (2, _)]) (fk rfl (fk rfl (fk rfl fn))) ?_
    refine cg_ret ?_
    refine eg_seq_ret ?_
    have u := u.trans (hw1.mono u.size)
    have u := u.trans (hw23.mono u.size)
    exact eg_ret_tmp rfl rfl ⟨_, rfl, rfl, u⟩
end Go.Proofs.Ytpoonjgkgaodmaa
