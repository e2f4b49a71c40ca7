/-
  What has grown is trimmed back.
-/
import Derived.Test.YtpoonjgkgaodmaaTrAwake
namespace Go.Proofs.Ytpoonjgkgaodmaa
open Go.ChangeShapes Go.WideShapes Go.ChangeAt Go.RowKit
set_option linter.unusedVariables false

set_option maxHeartbeats 4000000 in
theorem shapeTrims_any {W : World} {s : SlV} {Ls : List Nd} (h : RwNd W W.heap.size s Ls) : Calls Try.prog 3 #[s.v] W fun e W' => ∃ v, e = .returned v ∧ v = .bool true ∧ Below W.heap.size W W' := by
  refine calls_cg (n := 85) Try.func3 rfl Try.ntmps3 (by simp) ?_
  show CG _ _ _ [(0, s.v)] _ _
  have u := Below.refl W.heap.size W
  have q1 := h.len
  have q2 := h.cap
  refine cg_seq ?_
  refine cg_region ?_
  refine lsw (want_none (by rfl)) (y_assign rfl rfl) rfl (by decide) ?_
  refine lg_nil ?_
  refine nx (E' := [(0, _), (2, _)]) (fk rfl (fk rfl fn)) ?_
  refine cg_seq ?_
  refine cg_region ?_
  refine lg_callw (want_none (by rfl)) (awakeT_any _) (by kernel_rfl) rfl rfl rfl (by decide) ?_
  rintro _ w1 ⟨rfl, hw1⟩
  have zw1 := hw1.size
  refine lsw (want_none (by rfl)) (y_assign rfl rfl) rfl (by decide) ?_
  refine lg_nil ?_
  refine nx (E' := [(0, _), (2, _), (3, _)]) (fk rfl (fk rfl (fk rfl fn))) ?_
  refine cg_seq ?_
  refine cg_seq ?_
  refine cg_region ?_
  refine lsw (want_none (by rfl)) (y_move rfl rfl) rfl (by decide) ?_
  have h := h.below (hw1.mono (by omega))
  by_cases c2 : trFew Ls
  · refine lg_callw (want_none (by rfl)) (fewR_any (h.more (B' := w1.heap.size) (by omega)) (Nat.le_refl _)) (by kernel_rfl) rfl rfl rfl (by decide) ?_
    rintro u3 w3 ⟨e3, hw3⟩
    have zw3 := hw3.size
    obtain rfl : u3 = .bool true := e3.trans (congrArg Value.bool (decide_eq_true c2))
    refine lsw (want_none (by rfl)) (y_bnot rfl rfl) rfl (by decide) ?_
    refine lsw (want_none (by rfl)) (y_move rfl rfl) rfl (by decide) ?_
    refine lsw (want_t (dj := 13) (by rfl) (by kernel_rfl) rfl) (y_move rfl rfl) rfl (by decide) ?_
    have h := h.below (hw3.mono (by omega))
    by_cases c4 : trIs Ls
    · have htr := c4
      have htl := trIs_le htr
      have hta := trAs_ok htr
      have hle := trimL_le Ls
      rw [hta] at hle
      refine lg_callw (want_t (dj := 13) (by rfl) (by kernel_rfl) rfl) (sane_any (h.more (B' := w3.heap.size) (by omega)) (Nat.le_refl _)) (by kernel_rfl) rfl rfl rfl (by decide) ?_
      rintro u5 w5 ⟨e5, hw5⟩
      have zw5 := hw5.size
      obtain rfl : u5 = .bool true := e5.trans (congrArg Value.bool (decide_eq_true c4))
      refine lsw (want_t (dj := 13) (by rfl) (by kernel_rfl) rfl) (y_bnot rfl rfl) rfl (by decide) ?_
      refine lsw (want_none (by rfl)) (y_pick false rfl rfl rfl) rfl (by decide) ?_
      refine lg_nil ?_
      refine nx (E' := [(0, _), (2, _), (3, _), (17, _)]) (fk rfl (fk rfl (fk rfl (fk rfl fn)))) ?_
      refine cg_cf rfl ?_
      refine cg_skip ?_
      refine nx (E' := [(0, _), (2, _), (3, _)]) (fk rfl (fk rfl (fk rfl fn))) ?_
      refine cg_seq ?_
      refine cg_region ?_
      refine lsw (want_none (by rfl)) (y_move rfl rfl) rfl (by decide) ?_
      have h := h.below (hw5.mono (by omega))
      refine lg_callw (want_none (by rfl)) (trim_any h (by omega)) (by kernel_rfl) rfl rfl rfl (by decide) ?_
      rintro _ w6 ⟨s6, rfl, m6, hw6⟩
      have zw6 := hw6.size
      refine lsw (want_none (by rfl)) (y_assign rfl rfl) rfl (by decide) ?_
      refine lg_nil ?_
      refine nx (E' := [(0, _), (2, _), (3, _), (4, _)]) (fk rfl (fk rfl (fk rfl (fk rfl fn)))) ?_
      refine cg_seq ?_
      refine cg_region ?_
      refine lsw (want_none (by rfl)) (y_move rfl rfl) rfl (by decide) ?_
      have h := h.below (hw6.mono (by omega))
      refine lg_callw (want_none (by rfl)) (grow_any (h.more (B' := w6.heap.size) (by omega)) (Nat.le_refl _)) (by kernel_rfl) rfl rfl rfl (by decide) ?_
      rintro _ w7 ⟨s7, rfl, m7, hw7⟩
      have zw7 := hw7.size
      refine lsw (want_none (by rfl)) (y_move rfl rfl) rfl (by decide) ?_
      refine lsw (want_none (by rfl)) (y_extract rfl rfl rfl) rfl (by decide) ?_
      refine lsw (want_none (by rfl)) (y_extract rfl rfl rfl) rfl (by decide) ?_
      refine lsw (want_none (by rfl)) (y_assign rfl rfl) rfl (by decide) ?_
      refine lsw (want_none (by rfl)) (y_assign rfl rfl) rfl (by decide) ?_
      refine lg_nil ?_
      refine nx (E' := [(0, _), (2, _), (3, _), (4, _), (5, _), (6, _)]) (fk rfl (fk rfl (fk rfl (fk rfl (fk rfl (fk rfl fn)))))) ?_
      refine cg_seq ?_
      refine cg_seq ?_
      refine cg_region ?_
      refine lsw (want_none (by rfl)) (y_move rfl rfl) rfl (by decide) ?_
      by_cases c8 : (growE Ls) = 0
      · refine lsw (want_none (by rfl)) (yb (decide_eq_true c8) (yi_eql rfl rfl rfl)) rfl (by decide) ?_
        refine lsw (want_none (by rfl)) (y_move rfl rfl) rfl (by decide) ?_
        refine lsw (want_t (dj := 28) (by rfl) (by kernel_rfl) rfl) (y_move rfl rfl) rfl (by decide) ?_
        refine lg_callw (want_t (dj := 28) (by rfl) (by kernel_rfl) rfl) (trim_any m7 (by omega)) (by kernel_rfl) rfl rfl rfl (by decide) ?_
        rintro _ w9 ⟨s9, rfl, m9, hw9⟩
        have zw9 := hw9.size
        refine lsw (want_t (dj := 28) (by rfl) (by kernel_rfl) rfl) (y_move rfl rfl) rfl (by decide) ?_
        have m6 := m6.below (hw7.mono (by omega))
        have m6 := m6.below (hw9.mono (by omega))
        refine lg_callw (want_t (dj := 28) (by rfl) (by kernel_rfl) rfl) (sameR_any (m9.more (B' := w9.heap.size) (by omega)) (m6.more (B' := w9.heap.size) (by omega)) (Nat.le_refl _)) (by kernel_rfl) rfl rfl rfl (by decide) ?_
        rintro u10 w10 ⟨e10, hw10⟩
        have zw10 := hw10.size
        obtain rfl : u10 = .bool true := e10.trans (congrArg Value.bool (decide_eq_true (show trSame (trimL (growL Ls)) (trimL Ls) from (by rw [trim_grow c8]; exact tr_same _))))
        refine lsw (want_t (dj := 28) (by rfl) (by kernel_rfl) rfl) (y_bnot rfl rfl) rfl (by decide) ?_
        refine lsw (want_none (by rfl)) (y_pick true rfl rfl rfl) rfl (by decide) ?_
        refine lsw (want_none (by rfl)) (y_move rfl rfl) rfl (by decide) ?_
        refine lsw (want_t (dj := 35) (by rfl) (by kernel_rfl) rfl) (y_move rfl rfl) rfl (by decide) ?_
        have m6 := m6.below (hw10.mono (by omega))
        refine lg_callw (want_t (dj := 35) (by rfl) (by kernel_rfl) rfl) (trim_any m6 (by omega)) (by kernel_rfl) rfl rfl rfl (by decide) ?_
        rintro _ w11 ⟨s11, rfl, m11, hw11⟩
        have zw11 := hw11.size
        refine lsw (want_t (dj := 35) (by rfl) (by kernel_rfl) rfl) (y_move rfl rfl) rfl (by decide) ?_
        have m6 := m6.below (hw11.mono (by omega))
        refine lg_callw (want_t (dj := 35) (by rfl) (by kernel_rfl) rfl) (sameR_any (m11.more (B' := w11.heap.size) (by omega)) (m6.more (B' := w11.heap.size) (by omega)) (Nat.le_refl _)) (by kernel_rfl) rfl rfl rfl (by decide) ?_
        rintro u12 w12 ⟨e12, hw12⟩
        have zw12 := hw12.size
        obtain rfl : u12 = .bool true := e12.trans (congrArg Value.bool (decide_eq_true (show trSame (trimL (trimL Ls)) (trimL Ls) from (by rw [trim_twice]; exact tr_same _))))
        refine lsw (want_t (dj := 35) (by rfl) (by kernel_rfl) rfl) (y_bnot rfl rfl) rfl (by decide) ?_
        refine lsw (want_none (by rfl)) (y_pick false rfl rfl rfl) rfl (by decide) ?_
        refine lsw (want_none (by rfl)) (y_move rfl rfl) rfl (by decide) ?_
        refine lsw (want_t (dj := 42) (by rfl) (by kernel_rfl) rfl) (y_move rfl rfl) rfl (by decide) ?_
        have m6 := m6.below (hw12.mono (by omega))
        refine lsw (want_t (dj := 42) (by rfl) (by kernel_rfl) rfl) (y_lenM (el := 37) m6.len (by kernel_rfl) rfl rfl) rfl (by decide) ?_
        refine lsw (want_t (dj := 42) (by rfl) (by kernel_rfl) rfl) (y_move rfl rfl) rfl (by decide) ?_
        have h := h.below (hw7.mono (by omega))
        have h := h.below (hw9.mono (by omega))
        have h := h.below (hw10.mono (by omega))
        have h := h.below (hw11.mono (by omega))
        have h := h.below (hw12.mono (by omega))
        refine lsw (want_t (dj := 42) (by rfl) (by kernel_rfl) rfl) (y_lenM (el := 37) h.len (by kernel_rfl) rfl rfl) rfl (by decide) ?_
        refine lsw (want_t (dj := 42) (by rfl) (by kernel_rfl) rfl) (yb (decide_eq_false (show ¬ ((Ls.length : Int) < ((trimL Ls).length : Int)) from (by omega))) (yi_gtr rfl rfl rfl)) rfl (by decide) ?_
        refine lsw (want_none (by rfl)) (y_pick false rfl rfl rfl) rfl (by decide) ?_
        refine lg_nil ?_
        refine nx (E' := [(0, _), (2, _), (3, _), (4, _), (48, _)]) (fk rfl (fk rfl (fk rfl (fk rfl (fk rfl fn))))) ?_
        refine cg_cf rfl ?_
        refine cg_skip ?_
        refine nx (E' := [(0, _), (2, _), (3, _), (4, _)]) (fk rfl (fk rfl (fk rfl (fk rfl fn)))) ?_
        refine cg_seq ?_
        refine cg_region ?_
        refine lsw (want_none (by rfl)) (y_assign rfl rfl) rfl (by decide) ?_
        refine lg_nil ?_
        refine nx (E' := [(0, _), (2, _), (3, _), (4, _), (7, _)]) (fk rfl (fk rfl (fk rfl (fk rfl (fk rfl fn))))) ?_
        refine cg_seq ?_
        refine cg_seq ?_
        refine cg_region ?_
        refine lsw (want_none (by rfl)) (y_assign rfl rfl) rfl (by decide) ?_
        refine lg_nil ?_
        refine nx (E' := [(0, _), (2, _), (3, _), (4, _), (7, _), (8, _)]) (fk rfl (fk rfl (fk rfl (fk rfl (fk rfl (fk rfl fn)))))) ?_
        refine cg_block ?_
        have u := u.trans (hw1.mono u.size)
        have u := u.trans (hw3.mono u.size)
        have u := u.trans (hw5.mono u.size)
        have u := u.trans (hw6.mono u.size)
        have u := u.trans (hw7.mono u.size)
        have u := u.trans (hw9.mono u.size)
        have u := u.trans (hw10.mono u.size)
        have u := u.trans (hw11.mono u.size)
        have u := u.trans (hw12.mono u.size)
        refine cg_loopE (fun t a v => ∃ (r : SlV) (b : Bool), Holds 85 [(0, s.v), (3, .bool true), (4, r.v), (7, .bool b), (8, nv ((t : Nat) : Int))] a ∧ RwNd v W.heap.size s Ls ∧ RwNd v W.heap.size r (trimL Ls) ∧ Below W.heap.size W v ∧ (∀ x, x < t → (atN (trimL Ls) x).kind = 1 → (rootI ((trimL Ls).length : Int)) ≤ ((x : Nat) : Int) → b = true)) (Ls.length + 1) (fun a ha => ⟨s6, false, ha.keep (fk rfl (fk rfl (fk rfl (fk rfl (fk rfl fn))))), h, m6, u, (fun x hx => absurd hx (by omega))⟩) ?_
        rintro t a v ht ⟨r, b, ha, h, hr, u, hb⟩
        refine cg_at ha ?_
        clear ha a
        have zv := u.size
        have q1 := h.len
        have q2 := h.cap
        have q3 := hr.len
        have q4 := hr.cap
        refine cg_seq ?_
        refine cg_seq ?_
        refine cg_region ?_
        refine lsw (want_none (by rfl)) (y_move rfl rfl) rfl (by decide) ?_
        refine lsw (want_none (by rfl)) (y_move rfl rfl) rfl (by decide) ?_
        refine lsw (want_none (by rfl)) (y_lenM (el := 37) hr.len (by kernel_rfl) rfl rfl) rfl (by decide) ?_
        by_cases c13 : ((t : Nat) : Int) < ((trimL Ls).length : Int)
        · refine lsw (want_none (by rfl)) (yb (decide_eq_true c13) (yi_lss rfl rfl rfl)) rfl (by decide) ?_
          refine lg_nil ?_
          refine nx (E' := [(0, _), (3, _), (4, _), (7, _), (8, _), (49, _), (50, _), (51, _), (52, _)]) (fk rfl (fk rfl (fk rfl (fk rfl (fk rfl (fk rfl (fk rfl (fk rfl (fk rfl fn))))))))) ?_
          refine cg_ct rfl ?_
          refine cg_skip ?_
          refine nx (E' := [(0, _), (3, _), (4, _), (7, _), (8, _), (49, _), (50, _), (51, _), (52, _)]) (fk rfl (fk rfl (fk rfl (fk rfl (fk rfl (fk rfl (fk rfl (fk rfl (fk rfl fn))))))))) ?_
          refine cg_seq ?_
          refine cg_block ?_
          refine cg_seq ?_
          refine cg_region ?_
          refine lsw (want_none (by rfl)) (y_move rfl rfl) rfl (by decide) ?_
          refine lsw (want_none (by rfl)) (y_move rfl rfl) rfl (by decide) ?_
          obtain ⟨eb14, eo14, el14, eL14, eA14, eB14, eg14, eh14, ec14⟩ := hr.at (t) (by have := hr.len; omega)
          refine lsw (want_none (by rfl)) (y_ixR (s := r) (el := 37) (k := 8) (i := t) (iI := ((t : Nat) : Int)) eA14 (by kernel_rfl) (by kernel_rfl) (by omega) (by have := hr.len; omega) rfl rfl rfl) rfl (by decide) ?_
          refine lsw (want_none (by rfl)) (y_fld (off := 0) (by kernel_rfl) rfl rfl) rfl (by decide) ?_
          refine lsw (want_none (by rfl)) (y_celld (ec14 0 _ rfl) (by kernel_rfl) rfl rfl) rfl (by decide) ?_
          by_cases c15 : eL14.kind = 1
          · refine lsw (want_none (by rfl)) (yb (decide_eq_true c15) (yi_eql rfl rfl rfl)) rfl (by decide) ?_
            refine lsw (want_none (by rfl)) (y_move rfl rfl) rfl (by decide) ?_
            refine lsw (want_t (dj := 61) (by rfl) (by kernel_rfl) rfl) (y_move rfl rfl) rfl (by decide) ?_
            refine lsw (want_t (dj := 61) (by rfl) (by kernel_rfl) rfl) (y_move rfl rfl) rfl (by decide) ?_
            refine lsw (want_t (dj := 61) (by rfl) (by kernel_rfl) rfl) (y_lenM (el := 37) hr.len (by kernel_rfl) rfl rfl) rfl (by decide) ?_
            refine lsw (want_t (dj := 61) (by rfl) (by kernel_rfl) rfl) (y_call (rootL ((trimL Ls).length : Int) _) (by kernel_rfl) rfl rfl) rfl (by decide) ?_
            by_cases c16 : (rootI ((trimL Ls).length : Int)) ≤ ((t : Nat) : Int)
            · refine lsw (want_t (dj := 61) (by rfl) (by kernel_rfl) rfl) (yb (decide_eq_true c16) (yi_geq rfl rfl rfl)) rfl (by decide) ?_
              refine lsw (want_none (by rfl)) (y_pick true rfl rfl rfl) rfl (by decide) ?_
              refine lg_nil ?_
              refine nx (E' := [(0, _), (3, _), (4, _), (7, _), (8, _), (49, _), (50, _), (51, _), (52, _), (55, _), (56, _), (57, _), (58, _), (59, _), (60, _), (61, _), (62, _), (63, _), (64, _), (65, _), (66, _), (67, _)]) (fk rfl (fk rfl (fk rfl (fk rfl (fk rfl (fk rfl (fk rfl (fk rfl (fk rfl (fk rfl (fk rfl (fk rfl (fk rfl (fk rfl (fk rfl (fk rfl (fk rfl (fk rfl (fk rfl (fk rfl (fk rfl (fk rfl fn)))))))))))))))))))))) ?_
              refine cg_ct rfl ?_
              refine cg_region ?_
              refine lsw (want_none (by rfl)) (y_assign rfl rfl) rfl (by decide) ?_
              refine lg_nil ?_
              refine eg_block_norm ?_
              refine nx (E' := [(0, _), (3, _), (4, _), (8, _), (49, _), (50, _), (51, _), (52, _), (55, _), (56, _), (57, _), (58, _), (59, _), (60, _), (61, _), (62, _), (63, _), (64, _), (65, _), (66, _), (67, _), (7, _)]) (fk rfl (fk rfl (fk rfl (fk rfl (fk rfl (fk rfl (fk rfl (fk rfl (fk rfl (fk rfl (fk rfl (fk rfl (fk rfl (fk rfl (fk rfl (fk rfl (fk rfl (fk rfl (fk rfl (fk rfl (fk rfl (fk rfl fn)))))))))))))))))))))) ?_
              refine cg_region ?_
              refine lsw (want_none (by rfl)) (y_move rfl rfl) rfl (by decide) ?_
              refine lsw (want_none (by rfl)) (yv (congrArg nv (show ((t : Nat) : Int) + 1 = ((t + 1 : Nat) : Int) by omega)) (yi_add rfl rfl rfl (by omega) (by omega))) rfl (by decide) ?_
              refine lsw (want_none (by rfl)) (y_assign rfl rfl) rfl (by decide) ?_
              refine lg_nil ?_
              exact fun a ha => (show t < (Ls.length + 1) ∧ _ from ⟨(by omega), r, true, ha.keep (fk rfl (fk rfl (fk rfl (fk rfl (fk rfl fn))))), h, hr, u, (fun _ _ _ _ => rfl)⟩)
            · refine lsw (want_t (dj := 61) (by rfl) (by kernel_rfl) rfl) (yb (decide_eq_false c16) (yi_geq rfl rfl rfl)) rfl (by decide) ?_
              refine lsw (want_none (by rfl)) (y_pick true rfl rfl rfl) rfl (by decide) ?_
              refine lg_nil ?_
              refine nx (E' := [(0, _), (3, _), (4, _), (7, _), (8, _), (49, _), (50, _), (51, _), (52, _), (55, _), (56, _), (57, _), (58, _), (59, _), (60, _), (61, _), (62, _), (63, _), (64, _), (65, _), (66, _), (67, _)]) (fk rfl (fk rfl (fk rfl (fk rfl (fk rfl (fk rfl (fk rfl (fk rfl (fk rfl (fk rfl (fk rfl (fk rfl (fk rfl (fk rfl (fk rfl (fk rfl (fk rfl (fk rfl (fk rfl (fk rfl (fk rfl (fk rfl fn)))))))))))))))))))))) ?_
              refine cg_cf rfl ?_
              refine cg_skip ?_
              refine eg_block_norm ?_
              refine nx (E' := [(0, _), (3, _), (4, _), (7, _), (8, _), (49, _), (50, _), (51, _), (52, _), (55, _), (56, _), (57, _), (58, _), (59, _), (60, _), (61, _), (62, _), (63, _), (64, _), (65, _), (66, _), (67, _)]) (fk rfl (fk rfl (fk rfl (fk rfl (fk rfl (fk rfl (fk rfl (fk rfl (fk rfl (fk rfl (fk rfl (fk rfl (fk rfl (fk rfl (fk rfl (fk rfl (fk rfl (fk rfl (fk rfl (fk rfl (fk rfl (fk rfl fn)))))))))))))))))))))) ?_
              refine cg_region ?_
              refine lsw (want_none (by rfl)) (y_move rfl rfl) rfl (by decide) ?_
              refine lsw (want_none (by rfl)) (yv (congrArg nv (show ((t : Nat) : Int) + 1 = ((t + 1 : Nat) : Int) by omega)) (yi_add rfl rfl rfl (by omega) (by omega))) rfl (by decide) ?_
              refine lsw (want_none (by rfl)) (y_assign rfl rfl) rfl (by decide) ?_
              refine lg_nil ?_
              exact fun a ha => (show t < (Ls.length + 1) ∧ _ from ⟨(by omega), r, b, ha.keep (fk rfl (fk rfl (fk rfl (fk rfl (fk rfl fn))))), h, hr, u, (fun x hx hk hr => by by_cases q : x = t; subst q; rw [atN_some eg14] at hk; (first | exact absurd hk c16 | exact absurd hr c16); exact hb x (by omega) hk hr)⟩)
          · refine lsw (want_none (by rfl)) (yb (decide_eq_false c15) (yi_eql rfl rfl rfl)) rfl (by decide) ?_
            refine lsw (want_none (by rfl)) (y_move rfl rfl) rfl (by decide) ?_
            refine lsk (want_f (dj := 61) (by rfl) (by kernel_rfl) rfl) rfl (by decide) ?_
            refine lsk (want_f (dj := 61) (by rfl) (by kernel_rfl) rfl) rfl (by decide) ?_
            refine lsk (want_f (dj := 61) (by rfl) (by kernel_rfl) rfl) rfl (by decide) ?_
            refine lsk (want_f (dj := 61) (by rfl) (by kernel_rfl) rfl) rfl (by decide) ?_
            refine lsk (want_f (dj := 61) (by rfl) (by kernel_rfl) rfl) rfl (by decide) ?_
            refine lsw (want_none (by rfl)) (y_pick false rfl rfl rfl) rfl (by decide) ?_
            refine lg_nil ?_
            refine nx (E' := [(0, _), (3, _), (4, _), (7, _), (8, _), (49, _), (50, _), (51, _), (52, _), (55, _), (56, _), (57, _), (58, _), (59, _), (60, _), (61, _), (67, _)]) (fk rfl (fk rfl (fk rfl (fk rfl (fk rfl (fk rfl (fk rfl (fk rfl (fk rfl (fk rfl (fk rfl (fk rfl (fk rfl (fk rfl (fk rfl (fk rfl (fk rfl fn))))))))))))))))) ?_
            refine cg_cf rfl ?_
            refine cg_skip ?_
            refine eg_block_norm ?_
            refine nx (E' := [(0, _), (3, _), (4, _), (7, _), (8, _), (49, _), (50, _), (51, _), (52, _), (55, _), (56, _), (57, _), (58, _), (59, _), (60, _), (61, _), (67, _)]) (fk rfl (fk rfl (fk rfl (fk rfl (fk rfl (fk rfl (fk rfl (fk rfl (fk rfl (fk rfl (fk rfl (fk rfl (fk rfl (fk rfl (fk rfl (fk rfl (fk rfl fn))))))))))))))))) ?_
            refine cg_region ?_
            refine lsw (want_none (by rfl)) (y_move rfl rfl) rfl (by decide) ?_
            refine lsw (want_none (by rfl)) (yv (congrArg nv (show ((t : Nat) : Int) + 1 = ((t + 1 : Nat) : Int) by omega)) (yi_add rfl rfl rfl (by omega) (by omega))) rfl (by decide) ?_
            refine lsw (want_none (by rfl)) (y_assign rfl rfl) rfl (by decide) ?_
            refine lg_nil ?_
            exact fun a ha => (show t < (Ls.length + 1) ∧ _ from ⟨(by omega), r, b, ha.keep (fk rfl (fk rfl (fk rfl (fk rfl (fk rfl fn))))), h, hr, u, (fun x hx hk hr => by by_cases q : x = t; subst q; rw [atN_some eg14] at hk; (first | exact absurd hk c15 | exact absurd hr c15); exact hb x (by omega) hk hr)⟩)
        · refine lsw (want_none (by rfl)) (yb (decide_eq_false c13) (yi_lss rfl rfl rfl)) rfl (by decide) ?_
          refine lg_nil ?_
          refine nx (E' := [(0, _), (3, _), (4, _), (7, _), (8, _), (49, _), (50, _), (51, _), (52, _)]) (fk rfl (fk rfl (fk rfl (fk rfl (fk rfl (fk rfl (fk rfl (fk rfl (fk rfl fn))))))))) ?_
          refine cg_cf rfl ?_
          have hb2 : ¬ (trimL Ls) = [] → b = true := fun q => by
            obtain ⟨x, h1, h2, h3⟩ := trim_last q
            exact hb x (by omega) h2 h3
          refine cg_exit ?_
          refine eg_seq_exit ?_
          refine eg_seq_exit ?_
          refine eg_block_exit ?_
          refine nx (E' := [(0, _), (3, _), (4, _), (7, _)]) (fk rfl (fk rfl (fk rfl (fk rfl fn)))) ?_
          refine cg_seq ?_
          refine cg_region ?_
          refine lsw (want_none (by rfl)) (y_move rfl rfl) rfl (by decide) ?_
          refine lsw (want_none (by rfl)) (y_move rfl rfl) rfl (by decide) ?_
          refine lsw (want_t (dj := 69) (by rfl) (by kernel_rfl) rfl) (y_move rfl rfl) rfl (by decide) ?_
          refine lsw (want_t (dj := 69) (by rfl) (by kernel_rfl) rfl) (y_lenM (el := 37) hr.len (by kernel_rfl) rfl rfl) rfl (by decide) ?_
          by_cases c17 : ((trimL Ls).length : Int) = 0
          · refine lsw (want_t (dj := 69) (by rfl) (by kernel_rfl) rfl) (yb (decide_eq_true c17) (yi_eql rfl rfl rfl)) rfl (by decide) ?_
            refine lsw (want_t (dj := 69) (by rfl) (by kernel_rfl) rfl) (y_move rfl rfl) rfl (by decide) ?_
            refine lsk (want_f (dj := 73) (by rfl) (by kernel_rfl) rfl) rfl (by decide) ?_
            refine lsw (want_t (dj := 69) (by rfl) (by kernel_rfl) rfl) (y_pick true rfl rfl rfl) rfl (by decide) ?_
            refine lsw (want_none (by rfl)) (y_pick true rfl rfl rfl) rfl (by decide) ?_
            refine lsw (want_none (by rfl)) (y_move rfl rfl) rfl (by decide) ?_
            refine lsw (want_t (dj := 77) (by rfl) (by kernel_rfl) rfl) (y_move rfl rfl) rfl (by decide) ?_
            refine lsw (want_t (dj := 77) (by rfl) (by kernel_rfl) rfl) (y_move rfl rfl) rfl (by decide) ?_
            refine lsw (want_t (dj := 77) (by rfl) (by kernel_rfl) rfl) (y_move rfl rfl) rfl (by decide) ?_
            refine lsw (want_t (dj := 77) (by rfl) (by kernel_rfl) rfl) (y_lenM (el := 37) hr.len (by kernel_rfl) rfl rfl) rfl (by decide) ?_
            have cu18 := RwNd.cast (Ms := (trimL Ls)) (h.cut 0 ((trimL Ls).length) s.c (by have q1 := h.len; have q2 := h.cap; omega) (by have q1 := h.len; have q2 := h.cap; omega) (by have q1 := h.len; have q2 := h.cap; omega) (by have q1 := h.len; have q2 := h.cap; omega)) (by rw [List.drop_zero]; have z := trimL_take Ls; rw [hta] at z; exact z.symm)
            refine lsw (want_t (dj := 77) (by rfl) (by kernel_rfl) rfl) (y_cutR_h (s := s) ((trimL Ls).length) (hi := ((trimL Ls).length : Int)) (by have q1 := h.len; have q2 := h.cap; omega) (by have q1 := h.len; have q2 := h.cap; omega) rfl rfl rfl) rfl (by decide) ?_
            refine lg_callw (want_t (dj := 77) (by rfl) (by kernel_rfl) rfl) (sameR_any (hr.more (B' := v.heap.size) (by omega)) (cu18.more (B' := v.heap.size) (by omega)) (Nat.le_refl _)) (by kernel_rfl) rfl rfl rfl (by decide) ?_
            rintro u19 w19 ⟨e19, hw19⟩
            have zw19 := hw19.size
            obtain rfl : u19 = .bool true := e19.trans (congrArg Value.bool (decide_eq_true (tr_same _)))
            refine lsw (want_none (by rfl)) (y_pick true rfl rfl rfl) rfl (by decide) ?_
            refine lsw (want_none (by rfl)) (y_assign rfl rfl) rfl (by decide) ?_
            refine lg_nil ?_
            refine nx (E' := [(2, _)]) (fk rfl fn) ?_
            refine cg_ret ?_
            have u := u.trans (hw19.mono u.size)
            exact eg_ret_tmp rfl rfl ⟨_, rfl, rfl, u⟩
          · refine lsw (want_t (dj := 69) (by rfl) (by kernel_rfl) rfl) (yb (decide_eq_false c17) (yi_eql rfl rfl rfl)) rfl (by decide) ?_
            refine lsw (want_t (dj := 69) (by rfl) (by kernel_rfl) rfl) (y_move rfl rfl) rfl (by decide) ?_
            cases b
            · exact absurd (hb2 (fun q => c17 (by rw [q]; rfl))) (by decide)
            · refine lsw (want_t (dj := 73) (by rfl) (by kernel_rfl) rfl) (y_move rfl rfl) rfl (by decide) ?_
              refine lsw (want_t (dj := 69) (by rfl) (by kernel_rfl) rfl) (y_pick false rfl rfl rfl) rfl (by decide) ?_
              refine lsw (want_none (by rfl)) (y_pick true rfl rfl rfl) rfl (by decide) ?_
              refine lsw (want_none (by rfl)) (y_move rfl rfl) rfl (by decide) ?_
              refine lsw (want_t (dj := 77) (by rfl) (by kernel_rfl) rfl) (y_move rfl rfl) rfl (by decide) ?_
              refine lsw (want_t (dj := 77) (by rfl) (by kernel_rfl) rfl) (y_move rfl rfl) rfl (by decide) ?_
              refine lsw (want_t (dj := 77) (by rfl) (by kernel_rfl) rfl) (y_move rfl rfl) rfl (by decide) ?_
              refine lsw (want_t (dj := 77) (by rfl) (by kernel_rfl) rfl) (y_lenM (el := 37) hr.len (by kernel_rfl) rfl rfl) rfl (by decide) ?_
              have cu20 := RwNd.cast (Ms := (trimL Ls)) (h.cut 0 ((trimL Ls).length) s.c (by have q1 := h.len; have q2 := h.cap; omega) (by have q1 := h.len; have q2 := h.cap; omega) (by have q1 := h.len; have q2 := h.cap; omega) (by have q1 := h.len; have q2 := h.cap; omega)) (by rw [List.drop_zero]; have z := trimL_take Ls; rw [hta] at z; exact z.symm)
              refine lsw (want_t (dj := 77) (by rfl) (by kernel_rfl) rfl) (y_cutR_h (s := s) ((trimL Ls).length) (hi := ((trimL Ls).length : Int)) (by have q1 := h.len; have q2 := h.cap; omega) (by have q1 := h.len; have q2 := h.cap; omega) rfl rfl rfl) rfl (by decide) ?_
              refine lg_callw (want_t (dj := 77) (by rfl) (by kernel_rfl) rfl) (sameR_any (hr.more (B' := v.heap.size) (by omega)) (cu20.more (B' := v.heap.size) (by omega)) (Nat.le_refl _)) (by kernel_rfl) rfl rfl rfl (by decide) ?_
              rintro u21 w21 ⟨e21, hw21⟩
              have zw21 := hw21.size
              obtain rfl : u21 = .bool true := e21.trans (congrArg Value.bool (decide_eq_true (tr_same _)))
              refine lsw (want_none (by rfl)) (y_pick true rfl rfl rfl) rfl (by decide) ?_
              refine lsw (want_none (by rfl)) (y_assign rfl rfl) rfl (by decide) ?_
              refine lg_nil ?_
              refine nx (E' := [(2, _)]) (fk rfl fn) ?_
              refine cg_ret ?_
              have u := u.trans (hw21.mono u.size)
              exact eg_ret_tmp rfl rfl ⟨_, rfl, rfl, u⟩
      · refine lsw (want_none (by rfl)) (yb (decide_eq_false c8) (yi_eql rfl rfl rfl)) rfl (by decide) ?_
        refine lsw (want_none (by rfl)) (y_move rfl rfl) rfl (by decide) ?_
        refine lsk (want_f (dj := 28) (by rfl) (by kernel_rfl) rfl) rfl (by decide) ?_
        refine lsk (want_f (dj := 28) (by rfl) (by kernel_rfl) rfl) rfl (by decide) ?_
        refine lsk (want_f (dj := 28) (by rfl) (by kernel_rfl) rfl) rfl (by decide) ?_
        refine lsk (want_f (dj := 28) (by rfl) (by kernel_rfl) rfl) rfl (by decide) ?_
        refine lsk (want_f (dj := 28) (by rfl) (by kernel_rfl) rfl) rfl (by decide) ?_
        refine lsw (want_none (by rfl)) (y_pick false rfl rfl rfl) rfl (by decide) ?_
        refine lsw (want_none (by rfl)) (y_move rfl rfl) rfl (by decide) ?_
        refine lsw (want_t (dj := 35) (by rfl) (by kernel_rfl) rfl) (y_move rfl rfl) rfl (by decide) ?_
        have m6 := m6.below (hw7.mono (by omega))
        refine lg_callw (want_t (dj := 35) (by rfl) (by kernel_rfl) rfl) (trim_any m6 (by omega)) (by kernel_rfl) rfl rfl rfl (by decide) ?_
        rintro _ w22 ⟨s22, rfl, m22, hw22⟩
        have zw22 := hw22.size
        refine lsw (want_t (dj := 35) (by rfl) (by kernel_rfl) rfl) (y_move rfl rfl) rfl (by decide) ?_
        have m6 := m6.below (hw22.mono (by omega))
        refine lg_callw (want_t (dj := 35) (by rfl) (by kernel_rfl) rfl) (sameR_any (m22.more (B' := w22.heap.size) (by omega)) (m6.more (B' := w22.heap.size) (by omega)) (Nat.le_refl _)) (by kernel_rfl) rfl rfl rfl (by decide) ?_
        rintro u23 w23 ⟨e23, hw23⟩
        have zw23 := hw23.size
        obtain rfl : u23 = .bool true := e23.trans (congrArg Value.bool (decide_eq_true (show trSame (trimL (trimL Ls)) (trimL Ls) from (by rw [trim_twice]; exact tr_same _))))
        refine lsw (want_t (dj := 35) (by rfl) (by kernel_rfl) rfl) (y_bnot rfl rfl) rfl (by decide) ?_
        refine lsw (want_none (by rfl)) (y_pick false rfl rfl rfl) rfl (by decide) ?_
        refine lsw (want_none (by rfl)) (y_move rfl rfl) rfl (by decide) ?_
        refine lsw (want_t (dj := 42) (by rfl) (by kernel_rfl) rfl) (y_move rfl rfl) rfl (by decide) ?_
        have m6 := m6.below (hw23.mono (by omega))
        refine lsw (want_t (dj := 42) (by rfl) (by kernel_rfl) rfl) (y_lenM (el := 37) m6.len (by kernel_rfl) rfl rfl) rfl (by decide) ?_
        refine lsw (want_t (dj := 42) (by rfl) (by kernel_rfl) rfl) (y_move rfl rfl) rfl (by decide) ?_
        have h := h.below (hw7.mono (by omega))
        have h := h.below (hw22.mono (by omega))
        have h := h.below (hw23.mono (by omega))
        refine lsw (want_t (dj := 42) (by rfl) (by kernel_rfl) rfl) (y_lenM (el := 37) h.len (by kernel_rfl) rfl rfl) rfl (by decide) ?_
        refine lsw (want_t (dj := 42) (by rfl) (by kernel_rfl) rfl) (yb (decide_eq_false (show ¬ ((Ls.length : Int) < ((trimL Ls).length : Int)) from (by omega))) (yi_gtr rfl rfl rfl)) rfl (by decide) ?_
        refine lsw (want_none (by rfl)) (y_pick false rfl rfl rfl) rfl (by decide) ?_
        refine lg_nil ?_
        refine nx (E' := [(0, _), (2, _), (3, _), (4, _), (48, _)]) (fk rfl (fk rfl (fk rfl (fk rfl (fk rfl fn))))) ?_
        refine cg_cf rfl ?_
        refine cg_skip ?_
        refine nx (E' := [(0, _), (2, _), (3, _), (4, _)]) (fk rfl (fk rfl (fk rfl (fk rfl fn)))) ?_
        refine cg_seq ?_
        refine cg_region ?_
        refine lsw (want_none (by rfl)) (y_assign rfl rfl) rfl (by decide) ?_
        refine lg_nil ?_
        refine nx (E' := [(0, _), (2, _), (3, _), (4, _), (7, _)]) (fk rfl (fk rfl (fk rfl (fk rfl (fk rfl fn))))) ?_
        refine cg_seq ?_
        refine cg_seq ?_
        refine cg_region ?_
        refine lsw (want_none (by rfl)) (y_assign rfl rfl) rfl (by decide) ?_
        refine lg_nil ?_
        refine nx (E' := [(0, _), (2, _), (3, _), (4, _), (7, _), (8, _)]) (fk rfl (fk rfl (fk rfl (fk rfl (fk rfl (fk rfl fn)))))) ?_
        refine cg_block ?_
        have u := u.trans (hw1.mono u.size)
        have u := u.trans (hw3.mono u.size)
        have u := u.trans (hw5.mono u.size)
        have u := u.trans (hw6.mono u.size)
        have u := u.trans (hw7.mono u.size)
        have u := u.trans (hw22.mono u.size)
        have u := u.trans (hw23.mono u.size)
        refine cg_loopE (fun t a v => ∃ (r : SlV) (b : Bool), Holds 85 [(0, s.v), (3, .bool true), (4, r.v), (7, .bool b), (8, nv ((t : Nat) : Int))] a ∧ RwNd v W.heap.size s Ls ∧ RwNd v W.heap.size r (trimL Ls) ∧ Below W.heap.size W v ∧ (∀ x, x < t → (atN (trimL Ls) x).kind = 1 → (rootI ((trimL Ls).length : Int)) ≤ ((x : Nat) : Int) → b = true)) (Ls.length + 1) (fun a ha => ⟨s6, false, ha.keep (fk rfl (fk rfl (fk rfl (fk rfl (fk rfl fn))))), h, m6, u, (fun x hx => absurd hx (by omega))⟩) ?_
        rintro t a v ht ⟨r, b, ha, h, hr, u, hb⟩
        refine cg_at ha ?_
        clear ha a
        have zv := u.size
        have q1 := h.len
        have q2 := h.cap
        have q3 := hr.len
        have q4 := hr.cap
        refine cg_seq ?_
        refine cg_seq ?_
        refine cg_region ?_
        refine lsw (want_none (by rfl)) (y_move rfl rfl) rfl (by decide) ?_
        refine lsw (want_none (by rfl)) (y_move rfl rfl) rfl (by decide) ?_
        refine lsw (want_none (by rfl)) (y_lenM (el := 37) hr.len (by kernel_rfl) rfl rfl) rfl (by decide) ?_
        by_cases c24 : ((t : Nat) : Int) < ((trimL Ls).length : Int)
        · refine lsw (want_none (by rfl)) (yb (decide_eq_true c24) (yi_lss rfl rfl rfl)) rfl (by decide) ?_
          refine lg_nil ?_
          refine nx (E' := [(0, _), (3, _), (4, _), (7, _), (8, _), (49, _), (50, _), (51, _), (52, _)]) (fk rfl (fk rfl (fk rfl (fk rfl (fk rfl (fk rfl (fk rfl (fk rfl (fk rfl fn))))))))) ?_
          refine cg_ct rfl ?_
          refine cg_skip ?_
          refine nx (E' := [(0, _), (3, _), (4, _), (7, _), (8, _), (49, _), (50, _), (51, _), (52, _)]) (fk rfl (fk rfl (fk rfl (fk rfl (fk rfl (fk rfl (fk rfl (fk rfl (fk rfl fn))))))))) ?_
          refine cg_seq ?_
          refine cg_block ?_
          refine cg_seq ?_
          refine cg_region ?_
          refine lsw (want_none (by rfl)) (y_move rfl rfl) rfl (by decide) ?_
          refine lsw (want_none (by rfl)) (y_move rfl rfl) rfl (by decide) ?_
          obtain ⟨eb25, eo25, el25, eL25, eA25, eB25, eg25, eh25, ec25⟩ := hr.at (t) (by have := hr.len; omega)
          refine lsw (want_none (by rfl)) (y_ixR (s := r) (el := 37) (k := 8) (i := t) (iI := ((t : Nat) : Int)) eA25 (by kernel_rfl) (by kernel_rfl) (by omega) (by have := hr.len; omega) rfl rfl rfl) rfl (by decide) ?_
          refine lsw (want_none (by rfl)) (y_fld (off := 0) (by kernel_rfl) rfl rfl) rfl (by decide) ?_
          refine lsw (want_none (by rfl)) (y_celld (ec25 0 _ rfl) (by kernel_rfl) rfl rfl) rfl (by decide) ?_
          by_cases c26 : eL25.kind = 1
          · refine lsw (want_none (by rfl)) (yb (decide_eq_true c26) (yi_eql rfl rfl rfl)) rfl (by decide) ?_
            refine lsw (want_none (by rfl)) (y_move rfl rfl) rfl (by decide) ?_
            refine lsw (want_t (dj := 61) (by rfl) (by kernel_rfl) rfl) (y_move rfl rfl) rfl (by decide) ?_
            refine lsw (want_t (dj := 61) (by rfl) (by kernel_rfl) rfl) (y_move rfl rfl) rfl (by decide) ?_
            refine lsw (want_t (dj := 61) (by rfl) (by kernel_rfl) rfl) (y_lenM (el := 37) hr.len (by kernel_rfl) rfl rfl) rfl (by decide) ?_
            refine lsw (want_t (dj := 61) (by rfl) (by kernel_rfl) rfl) (y_call (rootL ((trimL Ls).length : Int) _) (by kernel_rfl) rfl rfl) rfl (by decide) ?_
            by_cases c27 : (rootI ((trimL Ls).length : Int)) ≤ ((t : Nat) : Int)
            · refine lsw (want_t (dj := 61) (by rfl) (by kernel_rfl) rfl) (yb (decide_eq_true c27) (yi_geq rfl rfl rfl)) rfl (by decide) ?_
              refine lsw (want_none (by rfl)) (y_pick true rfl rfl rfl) rfl (by decide) ?_
              refine lg_nil ?_
              refine nx (E' := [(0, _), (3, _), (4, _), (7, _), (8, _), (49, _), (50, _), (51, _), (52, _), (55, _), (56, _), (57, _), (58, _), (59, _), (60, _), (61, _), (62, _), (63, _), (64, _), (65, _), (66, _), (67, _)]) (fk rfl (fk rfl (fk rfl (fk rfl (fk rfl (fk rfl (fk rfl (fk rfl (fk rfl (fk rfl (fk rfl (fk rfl (fk rfl (fk rfl (fk rfl (fk rfl (fk rfl (fk rfl (fk rfl (fk rfl (fk rfl (fk rfl fn)))))))))))))))))))))) ?_
              refine cg_ct rfl ?_
              refine cg_region ?_
              refine lsw (want_none (by rfl)) (y_assign rfl rfl) rfl (by decide) ?_
              refine lg_nil ?_
              refine eg_block_norm ?_
              refine nx (E' := [(0, _), (3, _), (4, _), (8, _), (49, _), (50, _), (51, _), (52, _), (55, _), (56, _), (57, _), (58, _), (59, _), (60, _), (61, _), (62, _), (63, _), (64, _), (65, _), (66, _), (67, _), (7, _)]) (fk rfl (fk rfl (fk rfl (fk rfl (fk rfl (fk rfl (fk rfl (fk rfl (fk rfl (fk rfl (fk rfl (fk rfl (fk rfl (fk rfl (fk rfl (fk rfl (fk rfl (fk rfl (fk rfl (fk rfl (fk rfl (fk rfl fn)))))))))))))))))))))) ?_
              refine cg_region ?_
              refine lsw (want_none (by rfl)) (y_move rfl rfl) rfl (by decide) ?_
              refine lsw (want_none (by rfl)) (yv (congrArg nv (show ((t : Nat) : Int) + 1 = ((t + 1 : Nat) : Int) by omega)) (yi_add rfl rfl rfl (by omega) (by omega))) rfl (by decide) ?_
              refine lsw (want_none (by rfl)) (y_assign rfl rfl) rfl (by decide) ?_
              refine lg_nil ?_
              exact fun a ha => (show t < (Ls.length + 1) ∧ _ from ⟨(by omega), r, true, ha.keep (fk rfl (fk rfl (fk rfl (fk rfl (fk rfl fn))))), h, hr, u, (fun _ _ _ _ => rfl)⟩)
            · refine lsw (want_t (dj := 61) (by rfl) (by kernel_rfl) rfl) (yb (decide_eq_false c27) (yi_geq rfl rfl rfl)) rfl (by decide) ?_
              refine lsw (want_none (by rfl)) (y_pick true rfl rfl rfl) rfl (by decide) ?_
              refine lg_nil ?_
              refine nx (E' := [(0, _), (3, _), (4, _), (7, _), (8, _), (49, _), (50, _), (51, _), (52, _), (55, _), (56, _), (57, _), (58, _), (59, _), (60, _), (61, _), (62, _), (63, _), (64, _), (65, _), (66, _), (67, _)]) (fk rfl (fk rfl (fk rfl (fk rfl (fk rfl (fk rfl (fk rfl (fk rfl (fk rfl (fk rfl (fk rfl (fk rfl (fk rfl (fk rfl (fk rfl (fk rfl (fk rfl (fk rfl (fk rfl (fk rfl (fk rfl (fk rfl fn)))))))))))))))))))))) ?_
              refine cg_cf rfl ?_
              refine cg_skip ?_
              refine eg_block_norm ?_
              refine nx (E' := [(0, _), (3, _), (4, _), (7, _), (8, _), (49, _), (50, _), (51, _), (52, _), (55, _), (56, _), (57, _), (58, _), (59, _), (60, _), (61, _), (62, _), (63, _), (64, _), (65, _), (66, _), (67, _)]) (fk rfl (fk rfl (fk rfl (fk rfl (fk rfl (fk rfl (fk rfl (fk rfl (fk rfl (fk rfl (fk rfl (fk rfl (fk rfl (fk rfl (fk rfl (fk rfl (fk rfl (fk rfl (fk rfl (fk rfl (fk rfl (fk rfl fn)))))))))))))))))))))) ?_
              refine cg_region ?_
              refine lsw (want_none (by rfl)) (y_move rfl rfl) rfl (by decide) ?_
              refine lsw (want_none (by rfl)) (yv (congrArg nv (show ((t : Nat) : Int) + 1 = ((t + 1 : Nat) : Int) by omega)) (yi_add rfl rfl rfl (by omega) (by omega))) rfl (by decide) ?_
              refine lsw (want_none (by rfl)) (y_assign rfl rfl) rfl (by decide) ?_
              refine lg_nil ?_
              exact fun a ha => (show t < (Ls.length + 1) ∧ _ from ⟨(by omega), r, b, ha.keep (fk rfl (fk rfl (fk rfl (fk rfl (fk rfl fn))))), h, hr, u, (fun x hx hk hr => by by_cases q : x = t; subst q; rw [atN_some eg25] at hk; (first | exact absurd hk c27 | exact absurd hr c27); exact hb x (by omega) hk hr)⟩)
          · refine lsw (want_none (by rfl)) (yb (decide_eq_false c26) (yi_eql rfl rfl rfl)) rfl (by decide) ?_
            refine lsw (want_none (by rfl)) (y_move rfl rfl) rfl (by decide) ?_
            refine lsk (want_f (dj := 61) (by rfl) (by kernel_rfl) rfl) rfl (by decide) ?_
            refine lsk (want_f (dj := 61) (by rfl) (by kernel_rfl) rfl) rfl (by decide) ?_
            refine lsk (want_f (dj := 61) (by rfl) (by kernel_rfl) rfl) rfl (by decide) ?_
            refine lsk (want_f (dj := 61) (by rfl) (by kernel_rfl) rfl) rfl (by decide) ?_
            refine lsk (want_f (dj := 61) (by rfl) (by kernel_rfl) rfl) rfl (by decide) ?_
            refine lsw (want_none (by rfl)) (y_pick false rfl rfl rfl) rfl (by decide) ?_
            refine lg_nil ?_
            refine nx (E' := [(0, _), (3, _), (4, _), (7, _), (8, _), (49, _), (50, _), (51, _), (52, _), (55, _), (56, _), (57, _), (58, _), (59, _), (60, _), (61, _), (67, _)]) (fk rfl (fk rfl (fk rfl (fk rfl (fk rfl (fk rfl (fk rfl (fk rfl (fk rfl (fk rfl (fk rfl (fk rfl (fk rfl (fk rfl (fk rfl (fk rfl (fk rfl fn))))))))))))))))) ?_
            refine cg_cf rfl ?_
            refine cg_skip ?_
            refine eg_block_norm ?_
            refine nx (E' := [(0, _), (3, _), (4, _), (7, _), (8, _), (49, _), (50, _), (51, _), (52, _), (55, _), (56, _), (57, _), (58, _), (59, _), (60, _), (61, _), (67, _)]) (fk rfl (fk rfl (fk rfl (fk rfl (fk rfl (fk rfl (fk rfl (fk rfl (fk rfl (fk rfl (fk rfl (fk rfl (fk rfl (fk rfl (fk rfl (fk rfl (fk rfl fn))))))))))))))))) ?_
            refine cg_region ?_
            refine lsw (want_none (by rfl)) (y_move rfl rfl) rfl (by decide) ?_
            refine lsw (want_none (by rfl)) (yv (congrArg nv (show ((t : Nat) : Int) + 1 = ((t + 1 : Nat) : Int) by omega)) (yi_add rfl rfl rfl (by omega) (by omega))) rfl (by decide) ?_
            refine lsw (want_none (by rfl)) (y_assign rfl rfl) rfl (by decide) ?_
            refine lg_nil ?_
            exact fun a ha => (show t < (Ls.length + 1) ∧ _ from ⟨(by omega), r, b, ha.keep (fk rfl (fk rfl (fk rfl (fk rfl (fk rfl fn))))), h, hr, u, (fun x hx hk hr => by by_cases q : x = t; subst q; rw [atN_some eg25] at hk; (first | exact absurd hk c26 | exact absurd hr c26); exact hb x (by omega) hk hr)⟩)
        · refine lsw (want_none (by rfl)) (yb (decide_eq_false c24) (yi_lss rfl rfl rfl)) rfl (by decide) ?_
          refine lg_nil ?_
          refine nx (E' := [(0, _), (3, _), (4, _), (7, _), (8, _), (49, _), (50, _), (51, _), (52, _)]) (fk rfl (fk rfl (fk rfl (fk rfl (fk rfl (fk rfl (fk rfl (fk rfl (fk rfl fn))))))))) ?_
          refine cg_cf rfl ?_
          have hb2 : ¬ (trimL Ls) = [] → b = true := fun q => by
            obtain ⟨x, h1, h2, h3⟩ := trim_last q
            exact hb x (by omega) h2 h3
          refine cg_exit ?_
          refine eg_seq_exit ?_
          refine eg_seq_exit ?_
          refine eg_block_exit ?_
          refine nx (E' := [(0, _), (3, _), (4, _), (7, _)]) (fk rfl (fk rfl (fk rfl (fk rfl fn)))) ?_
          refine cg_seq ?_
          refine cg_region ?_
          refine lsw (want_none (by rfl)) (y_move rfl rfl) rfl (by decide) ?_
          refine lsw (want_none (by rfl)) (y_move rfl rfl) rfl (by decide) ?_
          refine lsw (want_t (dj := 69) (by rfl) (by kernel_rfl) rfl) (y_move rfl rfl) rfl (by decide) ?_
          refine lsw (want_t (dj := 69) (by rfl) (by kernel_rfl) rfl) (y_lenM (el := 37) hr.len (by kernel_rfl) rfl rfl) rfl (by decide) ?_
          by_cases c28 : ((trimL Ls).length : Int) = 0
          · refine lsw (want_t (dj := 69) (by rfl) (by kernel_rfl) rfl) (yb (decide_eq_true c28) (yi_eql rfl rfl rfl)) rfl (by decide) ?_
            refine lsw (want_t (dj := 69) (by rfl) (by kernel_rfl) rfl) (y_move rfl rfl) rfl (by decide) ?_
            refine lsk (want_f (dj := 73) (by rfl) (by kernel_rfl) rfl) rfl (by decide) ?_
            refine lsw (want_t (dj := 69) (by rfl) (by kernel_rfl) rfl) (y_pick true rfl rfl rfl) rfl (by decide) ?_
            refine lsw (want_none (by rfl)) (y_pick true rfl rfl rfl) rfl (by decide) ?_
            refine lsw (want_none (by rfl)) (y_move rfl rfl) rfl (by decide) ?_
            refine lsw (want_t (dj := 77) (by rfl) (by kernel_rfl) rfl) (y_move rfl rfl) rfl (by decide) ?_
            refine lsw (want_t (dj := 77) (by rfl) (by kernel_rfl) rfl) (y_move rfl rfl) rfl (by decide) ?_
            refine lsw (want_t (dj := 77) (by rfl) (by kernel_rfl) rfl) (y_move rfl rfl) rfl (by decide) ?_
            refine lsw (want_t (dj := 77) (by rfl) (by kernel_rfl) rfl) (y_lenM (el := 37) hr.len (by kernel_rfl) rfl rfl) rfl (by decide) ?_
            have cu29 := RwNd.cast (Ms := (trimL Ls)) (h.cut 0 ((trimL Ls).length) s.c (by have q1 := h.len; have q2 := h.cap; omega) (by have q1 := h.len; have q2 := h.cap; omega) (by have q1 := h.len; have q2 := h.cap; omega) (by have q1 := h.len; have q2 := h.cap; omega)) (by rw [List.drop_zero]; have z := trimL_take Ls; rw [hta] at z; exact z.symm)
            refine lsw (want_t (dj := 77) (by rfl) (by kernel_rfl) rfl) (y_cutR_h (s := s) ((trimL Ls).length) (hi := ((trimL Ls).length : Int)) (by have q1 := h.len; have q2 := h.cap; omega) (by have q1 := h.len; have q2 := h.cap; omega) rfl rfl rfl) rfl (by decide) ?_
            refine lg_callw (want_t (dj := 77) (by rfl) (by kernel_rfl) rfl) (sameR_any (hr.more (B' := v.heap.size) (by omega)) (cu29.more (B' := v.heap.size) (by omega)) (Nat.le_refl _)) (by kernel_rfl) rfl rfl rfl (by decide) ?_
            rintro u30 w30 ⟨e30, hw30⟩
            have zw30 := hw30.size
            obtain rfl : u30 = .bool true := e30.trans (congrArg Value.bool (decide_eq_true (tr_same _)))
            refine lsw (want_none (by rfl)) (y_pick true rfl rfl rfl) rfl (by decide) ?_
            refine lsw (want_none (by rfl)) (y_assign rfl rfl) rfl (by decide) ?_
            refine lg_nil ?_
            refine nx (E' := [(2, _)]) (fk rfl fn) ?_
            refine cg_ret ?_
            have u := u.trans (hw30.mono u.size)
            exact eg_ret_tmp rfl rfl ⟨_, rfl, rfl, u⟩
          · refine lsw (want_t (dj := 69) (by rfl) (by kernel_rfl) rfl) (yb (decide_eq_false c28) (yi_eql rfl rfl rfl)) rfl (by decide) ?_
            refine lsw (want_t (dj := 69) (by rfl) (by kernel_rfl) rfl) (y_move rfl rfl) rfl (by decide) ?_
            cases b
            · exact absurd (hb2 (fun q => c28 (by rw [q]; rfl))) (by decide)
            · refine lsw (want_t (dj := 73) (by rfl) (by kernel_rfl) rfl) (y_move rfl rfl) rfl (by decide) ?_
              refine lsw (want_t (dj := 69) (by rfl) (by kernel_rfl) rfl) (y_pick false rfl rfl rfl) rfl (by decide) ?_
              refine lsw (want_none (by rfl)) (y_pick true rfl rfl rfl) rfl (by decide) ?_
              refine lsw (want_none (by rfl)) (y_move rfl rfl) rfl (by decide) ?_
              refine lsw (want_t (dj := 77) (by rfl) (by kernel_rfl) rfl) (y_move rfl rfl) rfl (by decide) ?_
              refine lsw (want_t (dj := 77) (by rfl) (by kernel_rfl) rfl) (y_move rfl rfl) rfl (by decide) ?_
              refine lsw (want_t (dj := 77) (by rfl) (by kernel_rfl) rfl) (y_move rfl rfl) rfl (by decide) ?_
              refine lsw (want_t (dj := 77) (by rfl) (by kernel_rfl) rfl) (y_lenM (el := 37) hr.len (by kernel_rfl) rfl rfl) rfl (by decide) ?_
              have cu31 := RwNd.cast (Ms := (trimL Ls)) (h.cut 0 ((trimL Ls).length) s.c (by have q1 := h.len; have q2 := h.cap; omega) (by have q1 := h.len; have q2 := h.cap; omega) (by have q1 := h.len; have q2 := h.cap; omega) (by have q1 := h.len; have q2 := h.cap; omega)) (by rw [List.drop_zero]; have z := trimL_take Ls; rw [hta] at z; exact z.symm)
              refine lsw (want_t (dj := 77) (by rfl) (by kernel_rfl) rfl) (y_cutR_h (s := s) ((trimL Ls).length) (hi := ((trimL Ls).length : Int)) (by have q1 := h.len; have q2 := h.cap; omega) (by have q1 := h.len; have q2 := h.cap; omega) rfl rfl rfl) rfl (by decide) ?_
              refine lg_callw (want_t (dj := 77) (by rfl) (by kernel_rfl) rfl) (sameR_any (hr.more (B' := v.heap.size) (by omega)) (cu31.more (B' := v.heap.size) (by omega)) (Nat.le_refl _)) (by kernel_rfl) rfl rfl rfl (by decide) ?_
              rintro u32 w32 ⟨e32, hw32⟩
              have zw32 := hw32.size
              obtain rfl : u32 = .bool true := e32.trans (congrArg Value.bool (decide_eq_true (tr_same _)))
              refine lsw (want_none (by rfl)) (y_pick true rfl rfl rfl) rfl (by decide) ?_
              refine lsw (want_none (by rfl)) (y_assign rfl rfl) rfl (by decide) ?_
              refine lg_nil ?_
              refine nx (E' := [(2, _)]) (fk rfl fn) ?_
              refine cg_ret ?_
              have u := u.trans (hw32.mono u.size)
              exact eg_ret_tmp rfl rfl ⟨_, rfl, rfl, u⟩
    · refine lg_callw (want_t (dj := 13) (by rfl) (by kernel_rfl) rfl) (sane_any (h.more (B' := w3.heap.size) (by omega)) (Nat.le_refl _)) (by kernel_rfl) rfl rfl rfl (by decide) ?_
      rintro u33 w33 ⟨e33, hw33⟩
      have zw33 := hw33.size
      obtain rfl : u33 = .bool false := e33.trans (congrArg Value.bool (decide_eq_false c4))
      refine lsw (want_t (dj := 13) (by rfl) (by kernel_rfl) rfl) (y_bnot rfl rfl) rfl (by decide) ?_
      refine lsw (want_none (by rfl)) (y_pick false rfl rfl rfl) rfl (by decide) ?_
      refine lg_nil ?_
      refine nx (E' := [(0, _), (2, _), (3, _), (17, _)]) (fk rfl (fk rfl (fk rfl (fk rfl fn)))) ?_
      refine cg_ct rfl ?_
      refine cg_seq ?_
      refine cg_region ?_
      refine lsw (want_none (by rfl)) (y_move rfl rfl) rfl (by decide) ?_
      refine lsw (want_none (by rfl)) (y_assign rfl rfl) rfl (by decide) ?_
      refine lg_nil ?_
      refine nx (E' := [(0, _), (3, _), (2, _)]) (fk rfl (fk rfl (fk rfl fn))) ?_
      refine cg_ret ?_
      refine eg_seq_ret ?_
      have u := u.trans (hw1.mono u.size)
      have u := u.trans (hw3.mono u.size)
      have u := u.trans (hw33.mono u.size)
      exact eg_ret_tmp rfl rfl ⟨_, rfl, rfl, u⟩
  · refine lg_callw (want_none (by rfl)) (fewR_any (h.more (B' := w1.heap.size) (by omega)) (Nat.le_refl _)) (by kernel_rfl) rfl rfl rfl (by decide) ?_
    rintro u34 w34 ⟨e34, hw34⟩
    have zw34 := hw34.size
    obtain rfl : u34 = .bool false := e34.trans (congrArg Value.bool (decide_eq_false c2))
    refine lsw (want_none (by rfl)) (y_bnot rfl rfl) rfl (by decide) ?_
    refine lsw (want_none (by rfl)) (y_move rfl rfl) rfl (by decide) ?_
    refine lsk (want_f (dj := 13) (by rfl) (by kernel_rfl) rfl) rfl (by decide) ?_
    refine lsk (want_f (dj := 13) (by rfl) (by kernel_rfl) rfl) rfl (by decide) ?_
    refine lsk (want_f (dj := 13) (by rfl) (by kernel_rfl) rfl) rfl (by decide) ?_
    refine lsw (want_none (by rfl)) (y_pick true rfl rfl rfl) rfl (by decide) ?_
    refine lg_nil ?_
    refine nx (E' := [(0, _), (2, _), (3, _), (17, _)]) (fk rfl (fk rfl (fk rfl (fk rfl fn)))) ?_
    refine cg_ct rfl ?_
    refine cg_seq ?_
    refine cg_region ?_
    refine lsw (want_none (by rfl)) (y_move rfl rfl) rfl (by decide) ?_
    refine lsw (want_none (by rfl)) (y_assign rfl rfl) rfl (by decide) ?_
    refine lg_nil ?_
    refine nx (E' := [(0, _), (3, _), (2, _)]) (fk rfl (fk rfl (fk rfl fn))) ?_
    refine cg_ret ?_
    refine eg_seq_ret ?_
    have u := u.trans (hw1.mono u.size)
    have u := u.trans (hw34.mono u.size)
    exact eg_ret_tmp rfl rfl ⟨_, rfl, rfl, u⟩
end Go.Proofs.Ytpoonjgkgaodmaa
