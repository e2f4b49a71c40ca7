/-
  The document's Get.
-/
import Derived.Test.YtpmakacjhoemeaaLfRef
namespace Go.Proofs.Ytpmakacjhoemeaa
open Go.ChangeShapes Go.WideShapes Go.ChangeAt Go.RowKit
set_option linter.unusedVariables false

set_option maxHeartbeats 2000000 in
theorem rgetL_any {W : World} {B : Nat} {s : SlV} {xs : List Int} (h : Sl W B s xs) (hB : B ≤ W.heap.size) : Calls Try.prog 32 #[s.v] W fun e W' => ∃ v, e = .returned v ∧ ∃ (l : LfV) (r : SlV), v = .tuple #[.agg (l.cs (lfGet xs).2.1), r.v, nv (lfGet xs).1] ∧ IsLf W' B l (lfGet xs).2.1 ∧ Sl W' B r (lfGet xs).2.2 ∧ Below W.heap.size W W' := by
  refine calls_cg (n := 86) Try.func32 rfl Try.ntmps32 (by simp) ?_
  show CG _ _ _ [(0, s.v)] _ _
  have u := Below.refl W.heap.size W
  refine cg_seq ?_
  refine cg_region ?_
  refine lg_allocw (cs := LfV.zero.cs Lf.zero) (want_none (by rfl)) rfl (by kernel_rfl) rfl (by decide) fun b1 w1 n1 => ?_
  have r1 := n1.row
  have k1 := n1.blk
  have z1 := n1.size
  have lt1 : b1 < w1.heap.size := by omega
  refine lsw (want_none (by rfl)) (y_assign rfl rfl) rfl (by decide) ?_
  refine lsw (want_none (by rfl)) (y_assign rfl rfl) rfl (by decide) ?_
  refine lg_nil ?_
  refine nx (E' := [(0, _), (2, _), (3, _), (4, _)]) (fk rfl (fk rfl (fk rfl (fk rfl fn)))) ?_
  refine cg_seq ?_
  refine cg_region ?_
  refine lsw (want_none (by rfl)) (y_build (cs := LfV.zero.cs Lf.zero) rfl rfl (by kernel_rfl)) rfl (by decide) ?_
  refine lg_allocw (cs := LfV.zero.cs Lf.zero) (want_none (by rfl)) rfl (by kernel_rfl) rfl (by decide) fun b2 w2 n2 => ?_
  have r2 := n2.row
  have k2 := n2.blk
  have z2 := n2.size
  have lt2 : b2 < w2.heap.size := by omega
  have o3 := r2
  refine lg_stw (want_none (by rfl)) r2 rfl rfl rfl (by kernel_rfl) (by kernel_rfl) rfl rfl fun w3 s3 => ?_
  have r2 := s3.row
  have z3 := s3.size
  refine lg_nil ?_
  refine nx (E' := [(0, _), (2, _), (3, _), (4, _), (5, _)]) (fk rfl (fk rfl (fk rfl (fk rfl (fk rfl fn))))) ?_
  refine cg_seq ?_
  refine cg_region ?_
  refine lsw (want_none (by rfl)) (y_move rfl rfl) rfl (by decide) ?_
  have h := h.below (n1.below.mono (by omega))
  have h := h.below (n2.below.mono (by omega))
  have h := h.set o3 rfl s3
  refine lg_callw (want_none (by rfl)) (rgetBytes_S h (by omega)) (by kernel_rfl) rfl rfl rfl (by decide) ?_
  rintro _ w4 ⟨p4, r4, rfl, m4, l4, hw4⟩
  have zw4 := hw4.size
  refine lsw (want_none (by rfl)) (y_move rfl rfl) rfl (by decide) ?_
  refine lsw (want_none (by rfl)) (y_extract rfl rfl rfl) rfl (by decide) ?_
  refine lsw (want_none (by rfl)) (y_extract rfl rfl rfl) rfl (by decide) ?_
  refine lsw (want_none (by rfl)) (y_extract rfl rfl rfl) rfl (by decide) ?_
  refine lsw (want_none (by rfl)) (y_assign rfl rfl) rfl (by decide) ?_
  refine lsw (want_none (by rfl)) (y_assign rfl rfl) rfl (by decide) ?_
  refine lsw (want_none (by rfl)) (y_assign rfl rfl) rfl (by decide) ?_
  refine lg_nil ?_
  refine nx (E' := [(2, _), (3, _), (4, _), (5, _), (6, _), (7, _), (8, _)]) (fk rfl (fk rfl (fk rfl (fk rfl (fk rfl (fk rfl (fk rfl fn))))))) ?_
  refine cg_seq ?_
  refine cg_seq ?_
  refine cg_region ?_
  refine lsw (want_none (by rfl)) (y_move rfl rfl) rfl (by decide) ?_
  by_cases c5 : (bytesE xs) = 0
  · refine lsw (want_none (by rfl)) (yb (nd_f c5) (yi_neq rfl rfl rfl)) rfl (by decide) ?_
    refine lg_nil ?_
    refine nx (E' := [(2, _), (3, _), (4, _), (5, _), (6, _), (7, _), (8, _), (28, _)]) (fk rfl (fk rfl (fk rfl (fk rfl (fk rfl (fk rfl (fk rfl (fk rfl fn)))))))) ?_
    refine cg_cf rfl ?_
    refine cg_skip ?_
    refine nx (E' := [(2, _), (3, _), (4, _), (5, _), (6, _), (7, _)]) (fk rfl (fk rfl (fk rfl (fk rfl (fk rfl (fk rfl fn)))))) ?_
    refine cg_seq ?_
    refine cg_region ?_
    refine lsw (want_none (by rfl)) (y_move rfl rfl) rfl (by decide) ?_
    refine lg_callw (want_none (by rfl)) (rgetBytes_S l4 (by omega)) (by kernel_rfl) rfl rfl rfl (by decide) ?_
    rintro _ w6 ⟨p6, r6, rfl, m6, l6, hw6⟩
    have zw6 := hw6.size
    refine lsw (want_none (by rfl)) (y_move rfl rfl) rfl (by decide) ?_
    refine lsw (want_none (by rfl)) (y_extract rfl rfl rfl) rfl (by decide) ?_
    refine lsw (want_none (by rfl)) (y_extract rfl rfl rfl) rfl (by decide) ?_
    refine lsw (want_none (by rfl)) (y_extract rfl rfl rfl) rfl (by decide) ?_
    refine lsw (want_none (by rfl)) (y_assign rfl rfl) rfl (by decide) ?_
    refine lsw (want_none (by rfl)) (y_assign rfl rfl) rfl (by decide) ?_
    refine lsw (want_none (by rfl)) (y_assign rfl rfl) rfl (by decide) ?_
    refine lg_nil ?_
    refine nx (E' := [(2, _), (3, _), (4, _), (5, _), (6, _), (9, _), (10, _), (11, _)]) (fk rfl (fk rfl (fk rfl (fk rfl (fk rfl (fk rfl (fk rfl (fk rfl fn)))))))) ?_
    refine cg_seq ?_
    refine cg_seq ?_
    refine cg_region ?_
    refine lsw (want_none (by rfl)) (y_move rfl rfl) rfl (by decide) ?_
    by_cases c7 : (bytesE (bytesR xs)) = 0
    · refine lsw (want_none (by rfl)) (yb (nd_f c7) (yi_neq rfl rfl rfl)) rfl (by decide) ?_
      refine lg_nil ?_
      refine nx (E' := [(2, _), (3, _), (4, _), (5, _), (6, _), (9, _), (10, _), (11, _), (38, _)]) (fk rfl (fk rfl (fk rfl (fk rfl (fk rfl (fk rfl (fk rfl (fk rfl (fk rfl fn))))))))) ?_
      refine cg_cf rfl ?_
      refine cg_skip ?_
      refine nx (E' := [(2, _), (3, _), (4, _), (5, _), (6, _), (9, _), (10, _)]) (fk rfl (fk rfl (fk rfl (fk rfl (fk rfl (fk rfl (fk rfl fn))))))) ?_
      refine cg_seq ?_
      refine cg_region ?_
      refine lsw (want_none (by rfl)) (y_move rfl rfl) rfl (by decide) ?_
      refine lg_callw (want_none (by rfl)) (rgetNum_S 1 l6 (by omega)) (by kernel_rfl) rfl rfl rfl (by decide) ?_
      rintro _ w8 ⟨r8, rfl, l8, hw8⟩
      have zw8 := hw8.size
      refine lsw (want_none (by rfl)) (y_move rfl rfl) rfl (by decide) ?_
      refine lsw (want_none (by rfl)) (y_extract rfl rfl rfl) rfl (by decide) ?_
      refine lsw (want_none (by rfl)) (y_extract rfl rfl rfl) rfl (by decide) ?_
      refine lsw (want_none (by rfl)) (y_extract rfl rfl rfl) rfl (by decide) ?_
      refine lsw (want_none (by rfl)) (y_assign rfl rfl) rfl (by decide) ?_
      refine lsw (want_none (by rfl)) (y_assign rfl rfl) rfl (by decide) ?_
      refine lsw (want_none (by rfl)) (y_assign rfl rfl) rfl (by decide) ?_
      refine lg_nil ?_
      refine nx (E' := [(2, _), (3, _), (4, _), (5, _), (6, _), (9, _), (12, _), (13, _), (14, _)]) (fk rfl (fk rfl (fk rfl (fk rfl (fk rfl (fk rfl (fk rfl (fk rfl (fk rfl fn))))))))) ?_
      refine cg_seq ?_
      refine cg_seq ?_
      refine cg_region ?_
      refine lsw (want_none (by rfl)) (y_move rfl rfl) rfl (by decide) ?_
      by_cases c9 : (numE (bytesR (bytesR xs)) 1) = 0
      · refine lsw (want_none (by rfl)) (yb (nd_f c9) (yi_neq rfl rfl rfl)) rfl (by decide) ?_
        refine lg_nil ?_
        refine nx (E' := [(2, _), (3, _), (4, _), (5, _), (6, _), (9, _), (12, _), (13, _), (14, _), (48, _)]) (fk rfl (fk rfl (fk rfl (fk rfl (fk rfl (fk rfl (fk rfl (fk rfl (fk rfl (fk rfl fn)))))))))) ?_
        refine cg_cf rfl ?_
        refine cg_skip ?_
        refine nx (E' := [(2, _), (3, _), (4, _), (5, _), (6, _), (9, _), (12, _), (13, _)]) (fk rfl (fk rfl (fk rfl (fk rfl (fk rfl (fk rfl (fk rfl (fk rfl fn)))))))) ?_
        refine cg_seq ?_
        refine cg_seq ?_
        refine cg_region ?_
        refine lsw (want_none (by rfl)) (y_move rfl rfl) rfl (by decide) ?_
        by_cases c10 : (numM (bytesR (bytesR xs)) 1) < 1
        · refine lsw (want_none (by rfl)) (yb (decide_eq_true c10) (yi_lss rfl rfl rfl)) rfl (by decide) ?_
          refine lsw (want_none (by rfl)) (y_move rfl rfl) rfl (by decide) ?_
          refine lsk (want_f (dj := 53) (by rfl) (by kernel_rfl) rfl) rfl (by decide) ?_
          refine lsk (want_f (dj := 53) (by rfl) (by kernel_rfl) rfl) rfl (by decide) ?_
          refine lsw (want_none (by rfl)) (y_pick true rfl rfl rfl) rfl (by decide) ?_
          refine lg_nil ?_
          refine nx (E' := [(2, _), (3, _), (4, _), (5, _), (6, _), (9, _), (12, _), (13, _), (56, _)]) (fk rfl (fk rfl (fk rfl (fk rfl (fk rfl (fk rfl (fk rfl (fk rfl (fk rfl fn))))))))) ?_
          refine cg_ct rfl ?_
          refine cg_seq ?_
          refine cg_region ?_
          have r2 := RowAt.below hw4 r2.lt r2
          have r2 := RowAt.below hw6 r2.lt r2
          have r2 := RowAt.below hw8 r2.lt r2
          refine lsw (want_none (by rfl)) (y_loadA r2 (by kernel_rfl) (by kernel_rfl) rfl rfl) rfl (by decide) ?_
          have r1 := n2.keep r1
          have r1 := s3.keep r1 (by omega)
          have r1 := RowAt.below hw4 r1.lt r1
          have r1 := RowAt.below hw6 r1.lt r1
          have r1 := RowAt.below hw8 r1.lt r1
          have o11 := r1
          refine lg_stw (want_none (by rfl)) r1 rfl rfl rfl (by kernel_rfl) (by kernel_rfl) rfl rfl fun w11 s11 => ?_
          have r1 := s11.row
          have z11 := s11.size
          refine lsw (want_none (by rfl)) (y_assign rfl rfl) rfl (by decide) ?_
          refine lsw (want_none (by rfl)) (y_assign rfl rfl) rfl (by decide) ?_
          refine lg_nil ?_
          refine nx (E' := [(2, _), (5, _), (6, _), (9, _), (12, _), (13, _), (3, _), (4, _)]) (fk rfl (fk rfl (fk rfl (fk rfl (fk rfl (fk rfl (fk rfl (fk rfl fn)))))))) ?_
          refine cg_ret ?_
          refine eg_seq_ret ?_
          have hst : lfGet xs = (7, Lf.zero, []) := ((if_neg (not_not_intro c5)).trans ((if_neg (not_not_intro c7)).trans ((if_neg (not_not_intro c9)).trans (if_pos (by omega)))))
          refine eg_ret_agg3 rfl rfl r1 (by kernel_rfl) (by kernel_rfl) rfl rfl ?_
          rw [hst]
          have u := u.trans (n1.below.mono u.size)
          have u := u.trans (n2.below.mono u.size)
          have u := u.trans (s3.below _ (by omega))
          have u := u.trans (hw4.mono u.size)
          have u := u.trans (hw6.mono u.size)
          have u := u.trans (hw8.mono u.size)
          have u := u.trans (s11.below _ (by omega))
          exact ⟨_, rfl, LfV.zero, nilS, rfl, (IsLf.zero _ _), (Sl.nil _ _), u⟩
        · refine lsw (want_none (by rfl)) (yb (decide_eq_false c10) (yi_lss rfl rfl rfl)) rfl (by decide) ?_
          refine lsw (want_none (by rfl)) (y_move rfl rfl) rfl (by decide) ?_
          refine lsw (want_t (dj := 53) (by rfl) (by kernel_rfl) rfl) (y_move rfl rfl) rfl (by decide) ?_
          by_cases c12 : 3 < (numM (bytesR (bytesR xs)) 1)
          · refine lsw (want_t (dj := 53) (by rfl) (by kernel_rfl) rfl) (yb (decide_eq_true c12) (yi_gtr rfl rfl rfl)) rfl (by decide) ?_
            refine lsw (want_none (by rfl)) (y_pick false rfl rfl rfl) rfl (by decide) ?_
            refine lg_nil ?_
            refine nx (E' := [(2, _), (3, _), (4, _), (5, _), (6, _), (9, _), (12, _), (13, _), (56, _)]) (fk rfl (fk rfl (fk rfl (fk rfl (fk rfl (fk rfl (fk rfl (fk rfl (fk rfl fn))))))))) ?_
            refine cg_ct rfl ?_
            refine cg_seq ?_
            refine cg_region ?_
            have r2 := RowAt.below hw4 r2.lt r2
            have r2 := RowAt.below hw6 r2.lt r2
            have r2 := RowAt.below hw8 r2.lt r2
            refine lsw (want_none (by rfl)) (y_loadA r2 (by kernel_rfl) (by kernel_rfl) rfl rfl) rfl (by decide) ?_
            have r1 := n2.keep r1
            have r1 := s3.keep r1 (by omega)
            have r1 := RowAt.below hw4 r1.lt r1
            have r1 := RowAt.below hw6 r1.lt r1
            have r1 := RowAt.below hw8 r1.lt r1
            have o13 := r1
            refine lg_stw (want_none (by rfl)) r1 rfl rfl rfl (by kernel_rfl) (by kernel_rfl) rfl rfl fun w13 s13 => ?_
            have r1 := s13.row
            have z13 := s13.size
            refine lsw (want_none (by rfl)) (y_assign rfl rfl) rfl (by decide) ?_
            refine lsw (want_none (by rfl)) (y_assign rfl rfl) rfl (by decide) ?_
            refine lg_nil ?_
            refine nx (E' := [(2, _), (5, _), (6, _), (9, _), (12, _), (13, _), (3, _), (4, _)]) (fk rfl (fk rfl (fk rfl (fk rfl (fk rfl (fk rfl (fk rfl (fk rfl fn)))))))) ?_
            refine cg_ret ?_
            refine eg_seq_ret ?_
            have hst : lfGet xs = (7, Lf.zero, []) := ((if_neg (not_not_intro c5)).trans ((if_neg (not_not_intro c7)).trans ((if_neg (not_not_intro c9)).trans (if_pos (by omega)))))
            refine eg_ret_agg3 rfl rfl r1 (by kernel_rfl) (by kernel_rfl) rfl rfl ?_
            rw [hst]
            have u := u.trans (n1.below.mono u.size)
            have u := u.trans (n2.below.mono u.size)
            have u := u.trans (s3.below _ (by omega))
            have u := u.trans (hw4.mono u.size)
            have u := u.trans (hw6.mono u.size)
            have u := u.trans (hw8.mono u.size)
            have u := u.trans (s13.below _ (by omega))
            exact ⟨_, rfl, LfV.zero, nilS, rfl, (IsLf.zero _ _), (Sl.nil _ _), u⟩
          · refine lsw (want_t (dj := 53) (by rfl) (by kernel_rfl) rfl) (yb (decide_eq_false c12) (yi_gtr rfl rfl rfl)) rfl (by decide) ?_
            refine lsw (want_none (by rfl)) (y_pick false rfl rfl rfl) rfl (by decide) ?_
            refine lg_nil ?_
            refine nx (E' := [(2, _), (3, _), (4, _), (5, _), (6, _), (9, _), (12, _), (13, _), (56, _)]) (fk rfl (fk rfl (fk rfl (fk rfl (fk rfl (fk rfl (fk rfl (fk rfl (fk rfl fn))))))))) ?_
            refine cg_cf rfl ?_
            refine cg_skip ?_
            refine nx (E' := [(2, _), (3, _), (4, _), (5, _), (6, _), (9, _), (12, _), (13, _)]) (fk rfl (fk rfl (fk rfl (fk rfl (fk rfl (fk rfl (fk rfl (fk rfl fn)))))))) ?_
            refine cg_seq ?_
            refine cg_region ?_
            refine lsw (want_none (by rfl)) (y_move rfl rfl) rfl (by decide) ?_
            refine lsw (want_none (by rfl)) (y_move rfl rfl) rfl (by decide) ?_
            refine lsw (want_none (by rfl)) (y_move rfl rfl) rfl (by decide) ?_
            refine lsw (want_none (by rfl)) (y_build (cs := (⟨p4, p6, nilS⟩ : LfV).cs (⟨(bytesP xs), (bytesP (bytesR xs)), (numM (bytesR (bytesR xs)) 1), []⟩ : Lf)) rfl rfl (by kernel_rfl)) rfl (by decide) ?_
            refine lg_allocw (cs := LfV.zero.cs Lf.zero) (want_none (by rfl)) rfl (by kernel_rfl) rfl (by decide) fun b14 w14 n14 => ?_
            have r14 := n14.row
            have k14 := n14.blk
            have z14 := n14.size
            have lt14 : b14 < w14.heap.size := by omega
            have o15 := r14
            refine lg_stw (want_none (by rfl)) r14 rfl rfl rfl (by kernel_rfl) (by kernel_rfl) rfl rfl fun w15 s15 => ?_
            have r14 := s15.row
            have z15 := s15.size
            refine lg_nil ?_
            refine nx (E' := [(2, _), (3, _), (4, _), (5, _), (12, _), (13, _), (15, _)]) (fk rfl (fk rfl (fk rfl (fk rfl (fk rfl (fk rfl (fk rfl fn))))))) ?_
            refine cg_seq ?_
            refine cg_region ?_
            refine lsw (want_none (by rfl)) (y_move rfl rfl) rfl (by decide) ?_
            refine lsw (want_none (by rfl)) (y_assign rfl rfl) rfl (by decide) ?_
            refine lg_nil ?_
            refine nx (E' := [(2, _), (3, _), (4, _), (5, _), (12, _), (13, _), (15, _), (16, _)]) (fk rfl (fk rfl (fk rfl (fk rfl (fk rfl (fk rfl (fk rfl (fk rfl fn)))))))) ?_
            refine cg_seq ?_
            refine cg_seq ?_
            refine cg_region ?_
            refine lsw (want_none (by rfl)) (y_move rfl rfl) rfl (by decide) ?_
            by_cases c16 : (numM (bytesR (bytesR xs)) 1) = 3
            · refine lsw (want_none (by rfl)) (yb (decide_eq_true c16) (yi_eql rfl rfl rfl)) rfl (by decide) ?_
              refine lg_nil ?_
              refine nx (E' := [(2, _), (3, _), (4, _), (5, _), (13, _), (15, _), (16, _), (64, _)]) (fk rfl (fk rfl (fk rfl (fk rfl (fk rfl (fk rfl (fk rfl (fk rfl fn)))))))) ?_
              refine cg_ct rfl ?_
              refine cg_seq ?_
              refine cg_region ?_
              refine lsw (want_none (by rfl)) (y_move rfl rfl) rfl (by decide) ?_
              have l8 := l8.below (n14.below.mono (by omega))
              have l8 := l8.set o15 rfl s15
              refine lg_callw (want_none (by rfl)) (rgetBytes_S l8 (by omega)) (by kernel_rfl) rfl rfl rfl (by decide) ?_
              rintro _ w17 ⟨p17, r17, rfl, m17, l17, hw17⟩
              have zw17 := hw17.size
              refine lsw (want_none (by rfl)) (y_move rfl rfl) rfl (by decide) ?_
              refine lsw (want_none (by rfl)) (y_extract rfl rfl rfl) rfl (by decide) ?_
              refine lsw (want_none (by rfl)) (y_extract rfl rfl rfl) rfl (by decide) ?_
              refine lsw (want_none (by rfl)) (y_extract rfl rfl rfl) rfl (by decide) ?_
              refine lsw (want_none (by rfl)) (y_assign rfl rfl) rfl (by decide) ?_
              refine lsw (want_none (by rfl)) (y_assign rfl rfl) rfl (by decide) ?_
              refine lsw (want_none (by rfl)) (y_assign rfl rfl) rfl (by decide) ?_
              refine lg_nil ?_
              refine nx (E' := [(2, _), (3, _), (4, _), (5, _), (15, _), (16, _), (17, _), (18, _), (19, _)]) (fk rfl (fk rfl (fk rfl (fk rfl (fk rfl (fk rfl (fk rfl (fk rfl (fk rfl fn))))))))) ?_
              refine cg_seq ?_
              refine cg_seq ?_
              refine cg_region ?_
              refine lsw (want_none (by rfl)) (y_move rfl rfl) rfl (by decide) ?_
              by_cases c18 : (bytesE (numR (bytesR (bytesR xs)) 1)) = 0
              · refine lsw (want_none (by rfl)) (yb (nd_f c18) (yi_neq rfl rfl rfl)) rfl (by decide) ?_
                refine lg_nil ?_
                refine nx (E' := [(2, _), (3, _), (4, _), (5, _), (15, _), (16, _), (17, _), (18, _), (19, _), (72, _)]) (fk rfl (fk rfl (fk rfl (fk rfl (fk rfl (fk rfl (fk rfl (fk rfl (fk rfl (fk rfl fn)))))))))) ?_
                refine cg_cf rfl ?_
                refine cg_skip ?_
                refine nx (E' := [(2, _), (3, _), (4, _), (5, _), (15, _), (16, _), (17, _), (18, _)]) (fk rfl (fk rfl (fk rfl (fk rfl (fk rfl (fk rfl (fk rfl (fk rfl fn)))))))) ?_
                refine cg_seq ?_
                refine cg_region ?_
                refine lsw (want_none (by rfl)) (y_move rfl rfl) rfl (by decide) ?_
                refine lsw (want_none (by rfl)) (y_fld (off := 3) (by kernel_rfl) rfl rfl) rfl (by decide) ?_
                have r14 := RowAt.below hw17 r14.lt r14
                have o19 := r14
                refine lg_st1 (new := #[p4.v, p6.v, nv (numM (bytesR (bytesR xs)) 1), p17.v]) (want_none (by rfl)) r14 rfl rfl rfl (by kernel_rfl) rfl (show 3 < 4 by decide) rfl rfl fun w19 s19 => ?_
                have r14 := s19.row
                have z19 := s19.size
                refine lg_nil ?_
                refine nx (E' := [(2, _), (3, _), (4, _), (5, _), (15, _), (16, _), (18, _)]) (fk rfl (fk rfl (fk rfl (fk rfl (fk rfl (fk rfl (fk rfl fn))))))) ?_
                refine cg_region ?_
                refine lsw (want_none (by rfl)) (y_move rfl rfl) rfl (by decide) ?_
                refine lsw (want_none (by rfl)) (y_assign rfl rfl) rfl (by decide) ?_
                refine lg_nil ?_
                refine nx (E' := [(2, _), (3, _), (4, _), (5, _), (15, _), (16, _)]) (fk rfl (fk rfl (fk rfl (fk rfl (fk rfl (fk rfl fn)))))) ?_
                refine cg_seq ?_
                refine cg_seq ?_
                refine cg_region ?_
                refine lsw (want_none (by rfl)) (y_loadA r14 (by kernel_rfl) (by kernel_rfl) rfl rfl) rfl (by decide) ?_
                have m4 := m4.below (hw6.mono (by omega))
                have m4 := m4.below (hw8.mono (by omega))
                have m4 := m4.below (n14.below.mono (by omega))
                have m4 := m4.set o15 rfl s15
                have m4 := m4.below (hw17.mono (by omega))
                have m4 := m4.set o19 rfl s19
                have m6 := m6.below (hw8.mono (by omega))
                have m6 := m6.below (n14.below.mono (by omega))
                have m6 := m6.set o15 rfl s15
                have m6 := m6.below (hw17.mono (by omega))
                have m6 := m6.set o19 rfl s19
                have m17 := m17.set o19 rfl s19
                refine lg_callw (want_none (by rfl)) (rcheck_any (show IsLf w19 w19.heap.size (⟨p4, p6, p17⟩ : LfV) (⟨(bytesP xs), (bytesP (bytesR xs)), (numM (bytesR (bytesR xs)) 1), (bytesP (numR (bytesR (bytesR xs)) 1))⟩ : Lf) from ⟨(m4.more (B' := w19.heap.size) (by omega)), (m6.more (B' := w19.heap.size) (by omega)), (m17.more (B' := w19.heap.size) (by omega))⟩) (Nat.le_refl _)) (by kernel_rfl) rfl rfl rfl (by decide) ?_
                rintro _ w20 ⟨rfl, hw20⟩
                have zw20 := hw20.size
                by_cases c21 : (lfCheck (⟨(bytesP xs), (bytesP (bytesR xs)), (numM (bytesR (bytesR xs)) 1), (bytesP (numR (bytesR (bytesR xs)) 1))⟩ : Lf)) = 0
                · refine lsw (want_none (by rfl)) (yb (nd_f c21) (yi_neq rfl rfl rfl)) rfl (by decide) ?_
                  refine lg_nil ?_
                  refine nx (E' := [(2, _), (3, _), (4, _), (5, _), (15, _), (16, _), (80, _)]) (fk rfl (fk rfl (fk rfl (fk rfl (fk rfl (fk rfl (fk rfl fn))))))) ?_
                  refine cg_cf rfl ?_
                  refine cg_skip ?_
                  refine nx (E' := [(2, _), (3, _), (4, _), (15, _), (16, _)]) (fk rfl (fk rfl (fk rfl (fk rfl (fk rfl fn))))) ?_
                  refine cg_seq ?_
                  refine cg_region ?_
                  have r14 := RowAt.below hw20 r14.lt r14
                  refine lsw (want_none (by rfl)) (y_loadA r14 (by kernel_rfl) (by kernel_rfl) rfl rfl) rfl (by decide) ?_
                  refine lsw (want_none (by rfl)) (y_move rfl rfl) rfl (by decide) ?_
                  have r1 := n2.keep r1
                  have r1 := s3.keep r1 (by omega)
                  have r1 := RowAt.below hw4 r1.lt r1
                  have r1 := RowAt.below hw6 r1.lt r1
                  have r1 := RowAt.below hw8 r1.lt r1
                  have r1 := n14.keep r1
                  have r1 := s15.keep r1 (by omega)
                  have r1 := RowAt.below hw17 r1.lt r1
                  have r1 := s19.keep r1 (by omega)
                  have r1 := RowAt.below hw20 r1.lt r1
                  have o22 := r1
                  refine lg_stw (want_none (by rfl)) r1 rfl rfl rfl (by kernel_rfl) (by kernel_rfl) rfl rfl fun w22 s22 => ?_
                  have r1 := s22.row
                  have z22 := s22.size
                  refine lsw (want_none (by rfl)) (y_assign rfl rfl) rfl (by decide) ?_
                  refine lsw (want_none (by rfl)) (y_assign rfl rfl) rfl (by decide) ?_
                  refine lg_nil ?_
                  refine nx (E' := [(2, _), (3, _), (4, _)]) (fk rfl (fk rfl (fk rfl fn))) ?_
                  refine cg_ret ?_
                  have hst : lfGet xs = (0, (⟨(bytesP xs), (bytesP (bytesR xs)), (numM (bytesR (bytesR xs)) 1), (bytesP (numR (bytesR (bytesR xs)) 1))⟩ : Lf), (bytesR (numR (bytesR (bytesR xs)) 1))) := ((if_neg (not_not_intro c5)).trans ((if_neg (not_not_intro c7)).trans ((if_neg (not_not_intro c9)).trans ((if_neg (by omega)).trans ((if_pos c16).trans ((if_neg (not_not_intro c18)).trans (if_neg (not_not_intro c21))))))))
                  refine eg_ret_agg3 rfl rfl r1 (by kernel_rfl) (by kernel_rfl) rfl rfl ?_
                  rw [hst]
                  have m4 := m4.below (hw20.mono (by omega))
                  have m4 := m4.set o22 rfl s22
                  have m6 := m6.below (hw20.mono (by omega))
                  have m6 := m6.set o22 rfl s22
                  have m17 := m17.below (hw20.mono (by omega))
                  have m17 := m17.set o22 rfl s22
                  have l17 := l17.set o19 rfl s19
                  have l17 := l17.below (hw20.mono (by omega))
                  have l17 := l17.set o22 rfl s22
                  have u := u.trans (n1.below.mono u.size)
                  have u := u.trans (n2.below.mono u.size)
                  have u := u.trans (s3.below _ (by omega))
                  have u := u.trans (hw4.mono u.size)
                  have u := u.trans (hw6.mono u.size)
                  have u := u.trans (hw8.mono u.size)
                  have u := u.trans (n14.below.mono u.size)
                  have u := u.trans (s15.below _ (by omega))
                  have u := u.trans (hw17.mono u.size)
                  have u := u.trans (s19.below _ (by omega))
                  have u := u.trans (hw20.mono u.size)
                  have u := u.trans (s22.below _ (by omega))
                  exact ⟨_, rfl, (⟨p4, p6, p17⟩ : LfV), r17, rfl, ⟨m4, m6, m17⟩, l17, u⟩
                · refine lsw (want_none (by rfl)) (yb (nd_t c21) (yi_neq rfl rfl rfl)) rfl (by decide) ?_
                  refine lg_nil ?_
                  refine nx (E' := [(2, _), (3, _), (4, _), (5, _), (15, _), (16, _), (80, _)]) (fk rfl (fk rfl (fk rfl (fk rfl (fk rfl (fk rfl (fk rfl fn))))))) ?_
                  refine cg_ct rfl ?_
                  refine cg_seq ?_
                  refine cg_heldS (fun q => RowAt q b2 24 (LfV.zero.cs Lf.zero) ∧ RowAt q b14 24 #[p4.v, p6.v, nv (numM (bytesR (bytesR xs)) 1), p17.v]) (by kernel_rfl) (fun W23 eW23 => ?_) fun W23 eW23 => ?_
                  · have dW23 := below_drew _ _ eW23
                    have r2 := RowAt.below hw4 r2.lt r2
                    have r2 := RowAt.below hw6 r2.lt r2
                    have r2 := RowAt.below hw8 r2.lt r2
                    have r2 := n14.keep r2
                    have r2 := s15.keep r2 (by omega)
                    have r2 := RowAt.below hw17 r2.lt r2
                    have r2 := s19.keep r2 (by omega)
                    have r2 := RowAt.below hw20 r2.lt r2
                    have r2 := RowAt.below dW23 r2.lt r2
                    have r14 := RowAt.below hw20 r14.lt r14
                    have r14 := RowAt.below dW23 r14.lt r14
                    exact ⟨r2, r14⟩
                  have dW23 := below_drew _ _ eW23
                  have zW23 := size_drew _ _ eW23
                  clear eW23
                  have r2 := RowAt.below hw4 r2.lt r2
                  have r2 := RowAt.below hw6 r2.lt r2
                  have r2 := RowAt.below hw8 r2.lt r2
                  have r2 := n14.keep r2
                  have r2 := s15.keep r2 (by omega)
                  have r2 := RowAt.below hw17 r2.lt r2
                  have r2 := s19.keep r2 (by omega)
                  have r2 := RowAt.below hw20 r2.lt r2
                  have r2 := RowAt.below dW23 r2.lt r2
                  have r14 := RowAt.below hw20 r14.lt r14
                  have r14 := RowAt.below dW23 r14.lt r14
                  refine hgs_take 0 (by rfl) (want_none (by rfl)) (by rfl) rfl (by decide) (by kernel_rfl) (by kernel_rfl) (by kernel_rfl) (fun _ _ _ h => h) ⟨r2, r14⟩ (fun q hq => y_loadA hq.1 (by kernel_rfl) (by kernel_rfl) rfl rfl) ?_
                  refine hgs_take 1 (by rfl) (want_none (by rfl)) (by rfl) rfl (by decide) (by kernel_rfl) (by kernel_rfl) (by kernel_rfl) (fun _ _ _ h => h) ⟨r2, r14⟩ (fun q hq => y_loadA hq.2 (by kernel_rfl) (by kernel_rfl) rfl rfl) ?_
                  have m4 := m4.below (hw20.mono (by omega))
                  have m4 := m4.below (dW23.mono (by omega))
                  have m6 := m6.below (hw20.mono (by omega))
                  have m6 := m6.below (dW23.mono (by omega))
                  have m17 := m17.below (hw20.mono (by omega))
                  have m17 := m17.below (dW23.mono (by omega))
                  refine hgs_one 2 (by rfl) (by kernel_rfl) (want_none (by rfl)) ?_
                  refine lg_callw (want_none (by rfl)) (rcheck_any (show IsLf W23 W23.heap.size (⟨p4, p6, p17⟩ : LfV) (⟨(bytesP xs), (bytesP (bytesR xs)), (numM (bytesR (bytesR xs)) 1), (bytesP (numR (bytesR (bytesR xs)) 1))⟩ : Lf) from ⟨(m4.more (B' := W23.heap.size) (by omega)), (m6.more (B' := W23.heap.size) (by omega)), (m17.more (B' := W23.heap.size) (by omega))⟩) (Nat.le_refl _)) (by kernel_rfl) rfl rfl rfl (by decide) ?_
                  rintro _ w24 ⟨rfl, hw24⟩
                  have zw24 := hw24.size
                  have r2 := RowAt.below hw24 r2.lt r2
                  have r14 := RowAt.below hw24 r14.lt r14
                  refine hgs_next ⟨r2, r14⟩ ?_
                  refine hgs_one 3 (by rfl) (by kernel_rfl) (want_none (by rfl)) ?_
                  have r1 := n2.keep r1
                  have r1 := s3.keep r1 (by omega)
                  have r1 := RowAt.below hw4 r1.lt r1
                  have r1 := RowAt.below hw6 r1.lt r1
                  have r1 := RowAt.below hw8 r1.lt r1
                  have r1 := n14.keep r1
                  have r1 := s15.keep r1 (by omega)
                  have r1 := RowAt.below hw17 r1.lt r1
                  have r1 := s19.keep r1 (by omega)
                  have r1 := RowAt.below hw20 r1.lt r1
                  have r1 := RowAt.below dW23 r1.lt r1
                  have r1 := RowAt.below hw24 r1.lt r1
                  have o25 := r1
                  refine lg_stw (want_none (by rfl)) r1 rfl rfl rfl (by kernel_rfl) (by kernel_rfl) rfl rfl fun w25 s25 => ?_
                  have r1 := s25.row
                  have z25 := s25.size
                  have r2 := s25.keep r2 (by omega)
                  have r14 := s25.keep r14 (by omega)
                  refine hgs_next ⟨r2, r14⟩ ?_
                  refine hgs_take 4 (by rfl) (want_none (by rfl)) (by rfl) rfl (by decide) (by kernel_rfl) (by kernel_rfl) (by kernel_rfl) (fun _ _ _ h => h) ⟨r2, r14⟩ (fun q hq => y_assign rfl rfl) ?_
                  refine hgs_take 5 (by rfl) (want_none (by rfl)) (by rfl) rfl (by decide) (by kernel_rfl) (by kernel_rfl) (by kernel_rfl) (fun _ _ _ h => h) ⟨r2, r14⟩ (fun q hq => y_assign rfl rfl) ?_
                  refine hgs_done (by kernel_rfl) ?_
                  refine nx (E' := [(2, _), (15, _), (16, _), (3, _), (4, _)]) (fk rfl (fk rfl (fk rfl (fk rfl (fk rfl fn))))) ?_
                  refine cg_ret ?_
                  refine eg_seq_ret ?_
                  have hst : lfGet xs = ((lfCheck (⟨(bytesP xs), (bytesP (bytesR xs)), (numM (bytesR (bytesR xs)) 1), (bytesP (numR (bytesR (bytesR xs)) 1))⟩ : Lf)), Lf.zero, []) := ((if_neg (not_not_intro c5)).trans ((if_neg (not_not_intro c7)).trans ((if_neg (not_not_intro c9)).trans ((if_neg (by omega)).trans ((if_pos c16).trans ((if_neg (not_not_intro c18)).trans (if_pos c21)))))))
                  refine eg_ret_agg3 rfl rfl r1 (by kernel_rfl) (by kernel_rfl) rfl rfl ?_
                  rw [hst]
                  have u := u.trans (n1.below.mono u.size)
                  have u := u.trans (n2.below.mono u.size)
                  have u := u.trans (s3.below _ (by omega))
                  have u := u.trans (hw4.mono u.size)
                  have u := u.trans (hw6.mono u.size)
                  have u := u.trans (hw8.mono u.size)
                  have u := u.trans (n14.below.mono u.size)
                  have u := u.trans (s15.below _ (by omega))
                  have u := u.trans (hw17.mono u.size)
                  have u := u.trans (s19.below _ (by omega))
                  have u := u.trans (hw20.mono u.size)
                  have u := u.trans (dW23.mono u.size)
                  have u := u.trans (hw24.mono u.size)
                  have u := u.trans (s25.below _ (by omega))
                  exact ⟨_, rfl, LfV.zero, nilS, rfl, (IsLf.zero _ _), (Sl.nil _ _), u⟩
              · refine lsw (want_none (by rfl)) (yb (nd_t c18) (yi_neq rfl rfl rfl)) rfl (by decide) ?_
                refine lg_nil ?_
                refine nx (E' := [(2, _), (3, _), (4, _), (5, _), (15, _), (16, _), (17, _), (18, _), (19, _), (72, _)]) (fk rfl (fk rfl (fk rfl (fk rfl (fk rfl (fk rfl (fk rfl (fk rfl (fk rfl (fk rfl fn)))))))))) ?_
                refine cg_ct rfl ?_
                refine cg_seq ?_
                refine cg_region ?_
                have r2 := RowAt.below hw4 r2.lt r2
                have r2 := RowAt.below hw6 r2.lt r2
                have r2 := RowAt.below hw8 r2.lt r2
                have r2 := n14.keep r2
                have r2 := s15.keep r2 (by omega)
                have r2 := RowAt.below hw17 r2.lt r2
                refine lsw (want_none (by rfl)) (y_loadA r2 (by kernel_rfl) (by kernel_rfl) rfl rfl) rfl (by decide) ?_
                refine lsw (want_none (by rfl)) (y_move rfl rfl) rfl (by decide) ?_
                have r1 := n2.keep r1
                have r1 := s3.keep r1 (by omega)
                have r1 := RowAt.below hw4 r1.lt r1
                have r1 := RowAt.below hw6 r1.lt r1
                have r1 := RowAt.below hw8 r1.lt r1
                have r1 := n14.keep r1
                have r1 := s15.keep r1 (by omega)
                have r1 := RowAt.below hw17 r1.lt r1
                have o26 := r1
                refine lg_stw (want_none (by rfl)) r1 rfl rfl rfl (by kernel_rfl) (by kernel_rfl) rfl rfl fun w26 s26 => ?_
                have r1 := s26.row
                have z26 := s26.size
                refine lsw (want_none (by rfl)) (y_assign rfl rfl) rfl (by decide) ?_
                refine lsw (want_none (by rfl)) (y_assign rfl rfl) rfl (by decide) ?_
                refine lg_nil ?_
                refine nx (E' := [(2, _), (5, _), (15, _), (16, _), (17, _), (18, _), (3, _), (4, _)]) (fk rfl (fk rfl (fk rfl (fk rfl (fk rfl (fk rfl (fk rfl (fk rfl fn)))))))) ?_
                refine cg_ret ?_
                refine eg_seq_ret ?_
                refine eg_seq_ret ?_
                have hst : lfGet xs = ((bytesE (numR (bytesR (bytesR xs)) 1)), Lf.zero, []) := ((if_neg (not_not_intro c5)).trans ((if_neg (not_not_intro c7)).trans ((if_neg (not_not_intro c9)).trans ((if_neg (by omega)).trans ((if_pos c16).trans (if_pos c18))))))
                refine eg_ret_agg3 rfl rfl r1 (by kernel_rfl) (by kernel_rfl) rfl rfl ?_
                rw [hst]
                have u := u.trans (n1.below.mono u.size)
                have u := u.trans (n2.below.mono u.size)
                have u := u.trans (s3.below _ (by omega))
                have u := u.trans (hw4.mono u.size)
                have u := u.trans (hw6.mono u.size)
                have u := u.trans (hw8.mono u.size)
                have u := u.trans (n14.below.mono u.size)
                have u := u.trans (s15.below _ (by omega))
                have u := u.trans (hw17.mono u.size)
                have u := u.trans (s26.below _ (by omega))
                exact ⟨_, rfl, LfV.zero, nilS, rfl, (IsLf.zero _ _), (Sl.nil _ _), u⟩
            · refine lsw (want_none (by rfl)) (yb (decide_eq_false c16) (yi_eql rfl rfl rfl)) rfl (by decide) ?_
              refine lg_nil ?_
              refine nx (E' := [(2, _), (3, _), (4, _), (5, _), (13, _), (15, _), (16, _), (64, _)]) (fk rfl (fk rfl (fk rfl (fk rfl (fk rfl (fk rfl (fk rfl (fk rfl fn)))))))) ?_
              refine cg_cf rfl ?_
              refine cg_skip ?_
              refine nx (E' := [(2, _), (3, _), (4, _), (5, _), (15, _), (16, _)]) (fk rfl (fk rfl (fk rfl (fk rfl (fk rfl (fk rfl fn)))))) ?_
              refine cg_seq ?_
              refine cg_seq ?_
              refine cg_region ?_
              refine lsw (want_none (by rfl)) (y_loadA r14 (by kernel_rfl) (by kernel_rfl) rfl rfl) rfl (by decide) ?_
              have m4 := m4.below (hw6.mono (by omega))
              have m4 := m4.below (hw8.mono (by omega))
              have m4 := m4.below (n14.below.mono (by omega))
              have m4 := m4.set o15 rfl s15
              have m6 := m6.below (hw8.mono (by omega))
              have m6 := m6.below (n14.below.mono (by omega))
              have m6 := m6.set o15 rfl s15
              refine lg_callw (want_none (by rfl)) (rcheck_any (show IsLf w15 w15.heap.size (⟨p4, p6, nilS⟩ : LfV) (⟨(bytesP xs), (bytesP (bytesR xs)), (numM (bytesR (bytesR xs)) 1), []⟩ : Lf) from ⟨(m4.more (B' := w15.heap.size) (by omega)), (m6.more (B' := w15.heap.size) (by omega)), ((Sl.nil _ 0).more (B' := w15.heap.size) (by omega))⟩) (Nat.le_refl _)) (by kernel_rfl) rfl rfl rfl (by decide) ?_
              rintro _ w27 ⟨rfl, hw27⟩
              have zw27 := hw27.size
              by_cases c28 : (lfCheck (⟨(bytesP xs), (bytesP (bytesR xs)), (numM (bytesR (bytesR xs)) 1), []⟩ : Lf)) = 0
              · refine lsw (want_none (by rfl)) (yb (nd_f c28) (yi_neq rfl rfl rfl)) rfl (by decide) ?_
                refine lg_nil ?_
                refine nx (E' := [(2, _), (3, _), (4, _), (5, _), (15, _), (16, _), (80, _)]) (fk rfl (fk rfl (fk rfl (fk rfl (fk rfl (fk rfl (fk rfl fn))))))) ?_
                refine cg_cf rfl ?_
                refine cg_skip ?_
                refine nx (E' := [(2, _), (3, _), (4, _), (15, _), (16, _)]) (fk rfl (fk rfl (fk rfl (fk rfl (fk rfl fn))))) ?_
                refine cg_seq ?_
                refine cg_region ?_
                have r14 := RowAt.below hw27 r14.lt r14
                refine lsw (want_none (by rfl)) (y_loadA r14 (by kernel_rfl) (by kernel_rfl) rfl rfl) rfl (by decide) ?_
                refine lsw (want_none (by rfl)) (y_move rfl rfl) rfl (by decide) ?_
                have r1 := n2.keep r1
                have r1 := s3.keep r1 (by omega)
                have r1 := RowAt.below hw4 r1.lt r1
                have r1 := RowAt.below hw6 r1.lt r1
                have r1 := RowAt.below hw8 r1.lt r1
                have r1 := n14.keep r1
                have r1 := s15.keep r1 (by omega)
                have r1 := RowAt.below hw27 r1.lt r1
                have o29 := r1
                refine lg_stw (want_none (by rfl)) r1 rfl rfl rfl (by kernel_rfl) (by kernel_rfl) rfl rfl fun w29 s29 => ?_
                have r1 := s29.row
                have z29 := s29.size
                refine lsw (want_none (by rfl)) (y_assign rfl rfl) rfl (by decide) ?_
                refine lsw (want_none (by rfl)) (y_assign rfl rfl) rfl (by decide) ?_
                refine lg_nil ?_
                refine nx (E' := [(2, _), (3, _), (4, _)]) (fk rfl (fk rfl (fk rfl fn))) ?_
                refine cg_ret ?_
                have hst : lfGet xs = (0, (⟨(bytesP xs), (bytesP (bytesR xs)), (numM (bytesR (bytesR xs)) 1), []⟩ : Lf), (numR (bytesR (bytesR xs)) 1)) := ((if_neg (not_not_intro c5)).trans ((if_neg (not_not_intro c7)).trans ((if_neg (not_not_intro c9)).trans ((if_neg (by omega)).trans ((if_neg c16).trans (if_neg (not_not_intro c28)))))))
                refine eg_ret_agg3 rfl rfl r1 (by kernel_rfl) (by kernel_rfl) rfl rfl ?_
                rw [hst]
                have m4 := m4.below (hw27.mono (by omega))
                have m4 := m4.set o29 rfl s29
                have m6 := m6.below (hw27.mono (by omega))
                have m6 := m6.set o29 rfl s29
                have l8 := l8.below (n14.below.mono (by omega))
                have l8 := l8.set o15 rfl s15
                have l8 := l8.below (hw27.mono (by omega))
                have l8 := l8.set o29 rfl s29
                have u := u.trans (n1.below.mono u.size)
                have u := u.trans (n2.below.mono u.size)
                have u := u.trans (s3.below _ (by omega))
                have u := u.trans (hw4.mono u.size)
                have u := u.trans (hw6.mono u.size)
                have u := u.trans (hw8.mono u.size)
                have u := u.trans (n14.below.mono u.size)
                have u := u.trans (s15.below _ (by omega))
                have u := u.trans (hw27.mono u.size)
                have u := u.trans (s29.below _ (by omega))
                exact ⟨_, rfl, (⟨p4, p6, nilS⟩ : LfV), r8, rfl, ⟨m4, m6, (Sl.nil _ _)⟩, l8, u⟩
              · refine lsw (want_none (by rfl)) (yb (nd_t c28) (yi_neq rfl rfl rfl)) rfl (by decide) ?_
                refine lg_nil ?_
                refine nx (E' := [(2, _), (3, _), (4, _), (5, _), (15, _), (16, _), (80, _)]) (fk rfl (fk rfl (fk rfl (fk rfl (fk rfl (fk rfl (fk rfl fn))))))) ?_
                refine cg_ct rfl ?_
                refine cg_seq ?_
                refine cg_heldS (fun q => RowAt q b2 24 (LfV.zero.cs Lf.zero) ∧ RowAt q b14 24 ((⟨p4, p6, nilS⟩ : LfV).cs (⟨(bytesP xs), (bytesP (bytesR xs)), (numM (bytesR (bytesR xs)) 1), []⟩ : Lf))) (by kernel_rfl) (fun W30 eW30 => ?_) fun W30 eW30 => ?_
                · have dW30 := below_drew _ _ eW30
                  have r2 := RowAt.below hw4 r2.lt r2
                  have r2 := RowAt.below hw6 r2.lt r2
                  have r2 := RowAt.below hw8 r2.lt r2
                  have r2 := n14.keep r2
                  have r2 := s15.keep r2 (by omega)
                  have r2 := RowAt.below hw27 r2.lt r2
                  have r2 := RowAt.below dW30 r2.lt r2
                  have r14 := RowAt.below hw27 r14.lt r14
                  have r14 := RowAt.below dW30 r14.lt r14
                  exact ⟨r2, r14⟩
                have dW30 := below_drew _ _ eW30
                have zW30 := size_drew _ _ eW30
                clear eW30
                have r2 := RowAt.below hw4 r2.lt r2
                have r2 := RowAt.below hw6 r2.lt r2
                have r2 := RowAt.below hw8 r2.lt r2
                have r2 := n14.keep r2
                have r2 := s15.keep r2 (by omega)
                have r2 := RowAt.below hw27 r2.lt r2
                have r2 := RowAt.below dW30 r2.lt r2
                have r14 := RowAt.below hw27 r14.lt r14
                have r14 := RowAt.below dW30 r14.lt r14
                refine hgs_take 0 (by rfl) (want_none (by rfl)) (by rfl) rfl (by decide) (by kernel_rfl) (by kernel_rfl) (by kernel_rfl) (fun _ _ _ h => h) ⟨r2, r14⟩ (fun q hq => y_loadA hq.1 (by kernel_rfl) (by kernel_rfl) rfl rfl) ?_
                refine hgs_take 1 (by rfl) (want_none (by rfl)) (by rfl) rfl (by decide) (by kernel_rfl) (by kernel_rfl) (by kernel_rfl) (fun _ _ _ h => h) ⟨r2, r14⟩ (fun q hq => y_loadA hq.2 (by kernel_rfl) (by kernel_rfl) rfl rfl) ?_
                have m4 := m4.below (hw27.mono (by omega))
                have m4 := m4.below (dW30.mono (by omega))
                have m6 := m6.below (hw27.mono (by omega))
                have m6 := m6.below (dW30.mono (by omega))
                refine hgs_one 2 (by rfl) (by kernel_rfl) (want_none (by rfl)) ?_
                refine lg_callw (want_none (by rfl)) (rcheck_any (show IsLf W30 W30.heap.size (⟨p4, p6, nilS⟩ : LfV) (⟨(bytesP xs), (bytesP (bytesR xs)), (numM (bytesR (bytesR xs)) 1), []⟩ : Lf) from ⟨(m4.more (B' := W30.heap.size) (by omega)), (m6.more (B' := W30.heap.size) (by omega)), ((Sl.nil _ 0).more (B' := W30.heap.size) (by omega))⟩) (Nat.le_refl _)) (by kernel_rfl) rfl rfl rfl (by decide) ?_
                rintro _ w31 ⟨rfl, hw31⟩
                have zw31 := hw31.size
                have r2 := RowAt.below hw31 r2.lt r2
                have r14 := RowAt.below hw31 r14.lt r14
                refine hgs_next ⟨r2, r14⟩ ?_
                refine hgs_one 3 (by rfl) (by kernel_rfl) (want_none (by rfl)) ?_
                have r1 := n2.keep r1
                have r1 := s3.keep r1 (by omega)
                have r1 := RowAt.below hw4 r1.lt r1
                have r1 := RowAt.below hw6 r1.lt r1
                have r1 := RowAt.below hw8 r1.lt r1
                have r1 := n14.keep r1
                have r1 := s15.keep r1 (by omega)
                have r1 := RowAt.below hw27 r1.lt r1
                have r1 := RowAt.below dW30 r1.lt r1
                have r1 := RowAt.below hw31 r1.lt r1
                have o32 := r1
                refine lg_stw (want_none (by rfl)) r1 rfl rfl rfl (by kernel_rfl) (by kernel_rfl) rfl rfl fun w32 s32 => ?_
                have r1 := s32.row
                have z32 := s32.size
                have r2 := s32.keep r2 (by omega)
                have r14 := s32.keep r14 (by omega)
                refine hgs_next ⟨r2, r14⟩ ?_
                refine hgs_take 4 (by rfl) (want_none (by rfl)) (by rfl) rfl (by decide) (by kernel_rfl) (by kernel_rfl) (by kernel_rfl) (fun _ _ _ h => h) ⟨r2, r14⟩ (fun q hq => y_assign rfl rfl) ?_
                refine hgs_take 5 (by rfl) (want_none (by rfl)) (by rfl) rfl (by decide) (by kernel_rfl) (by kernel_rfl) (by kernel_rfl) (fun _ _ _ h => h) ⟨r2, r14⟩ (fun q hq => y_assign rfl rfl) ?_
                refine hgs_done (by kernel_rfl) ?_
                refine nx (E' := [(2, _), (15, _), (16, _), (3, _), (4, _)]) (fk rfl (fk rfl (fk rfl (fk rfl (fk rfl fn))))) ?_
                refine cg_ret ?_
                refine eg_seq_ret ?_
                have hst : lfGet xs = ((lfCheck (⟨(bytesP xs), (bytesP (bytesR xs)), (numM (bytesR (bytesR xs)) 1), []⟩ : Lf)), Lf.zero, []) := ((if_neg (not_not_intro c5)).trans ((if_neg (not_not_intro c7)).trans ((if_neg (not_not_intro c9)).trans ((if_neg (by omega)).trans ((if_neg c16).trans (if_pos c28))))))
                refine eg_ret_agg3 rfl rfl r1 (by kernel_rfl) (by kernel_rfl) rfl rfl ?_
                rw [hst]
                have u := u.trans (n1.below.mono u.size)
                have u := u.trans (n2.below.mono u.size)
                have u := u.trans (s3.below _ (by omega))
                have u := u.trans (hw4.mono u.size)
                have u := u.trans (hw6.mono u.size)
                have u := u.trans (hw8.mono u.size)
                have u := u.trans (n14.below.mono u.size)
                have u := u.trans (s15.below _ (by omega))
                have u := u.trans (hw27.mono u.size)
                have u := u.trans (dW30.mono u.size)
                have u := u.trans (hw31.mono u.size)
                have u := u.trans (s32.below _ (by omega))
                exact ⟨_, rfl, LfV.zero, nilS, rfl, (IsLf.zero _ _), (Sl.nil _ _), u⟩
      · refine lsw (want_none (by rfl)) (yb (nd_t c9) (yi_neq rfl rfl rfl)) rfl (by decide) ?_
        refine lg_nil ?_
        refine nx (E' := [(2, _), (3, _), (4, _), (5, _), (6, _), (9, _), (12, _), (13, _), (14, _), (48, _)]) (fk rfl (fk rfl (fk rfl (fk rfl (fk rfl (fk rfl (fk rfl (fk rfl (fk rfl (fk rfl fn)))))))))) ?_
        refine cg_ct rfl ?_
        refine cg_seq ?_
        refine cg_region ?_
        have r2 := RowAt.below hw4 r2.lt r2
        have r2 := RowAt.below hw6 r2.lt r2
        have r2 := RowAt.below hw8 r2.lt r2
        refine lsw (want_none (by rfl)) (y_loadA r2 (by kernel_rfl) (by kernel_rfl) rfl rfl) rfl (by decide) ?_
        refine lsw (want_none (by rfl)) (y_move rfl rfl) rfl (by decide) ?_
        have r1 := n2.keep r1
        have r1 := s3.keep r1 (by omega)
        have r1 := RowAt.below hw4 r1.lt r1
        have r1 := RowAt.below hw6 r1.lt r1
        have r1 := RowAt.below hw8 r1.lt r1
        have o33 := r1
        refine lg_stw (want_none (by rfl)) r1 rfl rfl rfl (by kernel_rfl) (by kernel_rfl) rfl rfl fun w33 s33 => ?_
        have r1 := s33.row
        have z33 := s33.size
        refine lsw (want_none (by rfl)) (y_assign rfl rfl) rfl (by decide) ?_
        refine lsw (want_none (by rfl)) (y_assign rfl rfl) rfl (by decide) ?_
        refine lg_nil ?_
        refine nx (E' := [(2, _), (5, _), (6, _), (9, _), (12, _), (13, _), (3, _), (4, _)]) (fk rfl (fk rfl (fk rfl (fk rfl (fk rfl (fk rfl (fk rfl (fk rfl fn)))))))) ?_
        refine cg_ret ?_
        refine eg_seq_ret ?_
        have hst : lfGet xs = ((numE (bytesR (bytesR xs)) 1), Lf.zero, []) := ((if_neg (not_not_intro c5)).trans ((if_neg (not_not_intro c7)).trans (if_pos c9)))
        refine eg_ret_agg3 rfl rfl r1 (by kernel_rfl) (by kernel_rfl) rfl rfl ?_
        rw [hst]
        have u := u.trans (n1.below.mono u.size)
        have u := u.trans (n2.below.mono u.size)
        have u := u.trans (s3.below _ (by omega))
        have u := u.trans (hw4.mono u.size)
        have u := u.trans (hw6.mono u.size)
        have u := u.trans (hw8.mono u.size)
        have u := u.trans (s33.below _ (by omega))
        exact ⟨_, rfl, LfV.zero, nilS, rfl, (IsLf.zero _ _), (Sl.nil _ _), u⟩
    · refine lsw (want_none (by rfl)) (yb (nd_t c7) (yi_neq rfl rfl rfl)) rfl (by decide) ?_
      refine lg_nil ?_
      refine nx (E' := [(2, _), (3, _), (4, _), (5, _), (6, _), (9, _), (10, _), (11, _), (38, _)]) (fk rfl (fk rfl (fk rfl (fk rfl (fk rfl (fk rfl (fk rfl (fk rfl (fk rfl fn))))))))) ?_
      refine cg_ct rfl ?_
      refine cg_seq ?_
      refine cg_region ?_
      have r2 := RowAt.below hw4 r2.lt r2
      have r2 := RowAt.below hw6 r2.lt r2
      refine lsw (want_none (by rfl)) (y_loadA r2 (by kernel_rfl) (by kernel_rfl) rfl rfl) rfl (by decide) ?_
      refine lsw (want_none (by rfl)) (y_move rfl rfl) rfl (by decide) ?_
      have r1 := n2.keep r1
      have r1 := s3.keep r1 (by omega)
      have r1 := RowAt.below hw4 r1.lt r1
      have r1 := RowAt.below hw6 r1.lt r1
      have o34 := r1
      refine lg_stw (want_none (by rfl)) r1 rfl rfl rfl (by kernel_rfl) (by kernel_rfl) rfl rfl fun w34 s34 => ?_
      have r1 := s34.row
      have z34 := s34.size
      refine lsw (want_none (by rfl)) (y_assign rfl rfl) rfl (by decide) ?_
      refine lsw (want_none (by rfl)) (y_assign rfl rfl) rfl (by decide) ?_
      refine lg_nil ?_
      refine nx (E' := [(2, _), (5, _), (6, _), (9, _), (10, _), (3, _), (4, _)]) (fk rfl (fk rfl (fk rfl (fk rfl (fk rfl (fk rfl (fk rfl fn))))))) ?_
      refine cg_ret ?_
      refine eg_seq_ret ?_
      have hst : lfGet xs = ((bytesE (bytesR xs)), Lf.zero, []) := ((if_neg (not_not_intro c5)).trans (if_pos c7))
      refine eg_ret_agg3 rfl rfl r1 (by kernel_rfl) (by kernel_rfl) rfl rfl ?_
      rw [hst]
      have u := u.trans (n1.below.mono u.size)
      have u := u.trans (n2.below.mono u.size)
      have u := u.trans (s3.below _ (by omega))
      have u := u.trans (hw4.mono u.size)
      have u := u.trans (hw6.mono u.size)
      have u := u.trans (s34.below _ (by omega))
      exact ⟨_, rfl, LfV.zero, nilS, rfl, (IsLf.zero _ _), (Sl.nil _ _), u⟩
  · refine lsw (want_none (by rfl)) (yb (nd_t c5) (yi_neq rfl rfl rfl)) rfl (by decide) ?_
    refine lg_nil ?_
    refine nx (E' := [(2, _), (3, _), (4, _), (5, _), (6, _), (7, _), (8, _), (28, _)]) (fk rfl (fk rfl (fk rfl (fk rfl (fk rfl (fk rfl (fk rfl (fk rfl fn)))))))) ?_
    refine cg_ct rfl ?_
    refine cg_seq ?_
    refine cg_region ?_
    have r2 := RowAt.below hw4 r2.lt r2
    refine lsw (want_none (by rfl)) (y_loadA r2 (by kernel_rfl) (by kernel_rfl) rfl rfl) rfl (by decide) ?_
    refine lsw (want_none (by rfl)) (y_move rfl rfl) rfl (by decide) ?_
    have r1 := n2.keep r1
    have r1 := s3.keep r1 (by omega)
    have r1 := RowAt.below hw4 r1.lt r1
    have o35 := r1
    refine lg_stw (want_none (by rfl)) r1 rfl rfl rfl (by kernel_rfl) (by kernel_rfl) rfl rfl fun w35 s35 => ?_
    have r1 := s35.row
    have z35 := s35.size
    refine lsw (want_none (by rfl)) (y_assign rfl rfl) rfl (by decide) ?_
    refine lsw (want_none (by rfl)) (y_assign rfl rfl) rfl (by decide) ?_
    refine lg_nil ?_
    refine nx (E' := [(2, _), (5, _), (6, _), (7, _), (3, _), (4, _)]) (fk rfl (fk rfl (fk rfl (fk rfl (fk rfl (fk rfl fn)))))) ?_
    refine cg_ret ?_
    refine eg_seq_ret ?_
    have hst : lfGet xs = ((bytesE xs), Lf.zero, []) := (if_pos c5)
    refine eg_ret_agg3 rfl rfl r1 (by kernel_rfl) (by kernel_rfl) rfl rfl ?_
    rw [hst]
    have u := u.trans (n1.below.mono u.size)
    have u := u.trans (n2.below.mono u.size)
    have u := u.trans (s3.below _ (by omega))
    have u := u.trans (hw4.mono u.size)
    have u := u.trans (s35.below _ (by omega))
    exact ⟨_, rfl, LfV.zero, nilS, rfl, (IsLf.zero _ _), (Sl.nil _ _), u⟩
end Go.Proofs.Ytpmakacjhoemeaa
