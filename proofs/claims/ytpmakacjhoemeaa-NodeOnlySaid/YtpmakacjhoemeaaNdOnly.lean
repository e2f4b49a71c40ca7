/-
  What is got was put.
-/
import Derived.Test.YtpmakacjhoemeaaNdAwake
import Derived.Test.YtpmakacjhoemeaaNdRef
namespace Go.Proofs.Ytpmakacjhoemeaa
open Go.ChangeShapes Go.WideShapes Go.ChangeAt Go.RowKit
set_option linter.unusedVariables false

set_option maxHeartbeats 4000000 in
theorem nodeOnly_any {W : World} {s : SlV} {xs : List Int} (h : Sl W W.heap.size s xs) : Calls Try.prog 5 #[s.v] W fun e W' => ∃ v, e = .returned v ∧ v = .bool true ∧ Below W.heap.size W W' := by
  refine calls_cg (n := 48) Try.func5 rfl Try.ntmps5 (by simp) ?_
  show CG _ _ _ [(0, s.v)] _ _
  have u := Below.refl W.heap.size W
  have hb := h.bytes
  refine cg_seq ?_
  refine cg_region ?_
  refine lsw (want_none (by rfl)) (y_assign rfl rfl) rfl (by decide) ?_
  refine lg_nil ?_
  refine nx (E' := [(0, _), (2, _)]) (fk rfl (fk rfl fn)) ?_
  refine cg_seq ?_
  refine cg_region ?_
  refine lg_callw (want_none (by rfl)) (awakeN_any _) (by kernel_rfl) rfl rfl rfl (by decide) ?_
  rintro _ w1 ⟨rfl, hw1⟩
  have zw1 := hw1.size
  refine lsw (want_none (by rfl)) (y_assign rfl rfl) rfl (by decide) ?_
  refine lg_nil ?_
  refine nx (E' := [(0, _), (2, _), (3, _)]) (fk rfl (fk rfl (fk rfl fn))) ?_
  refine cg_seq ?_
  refine cg_seq ?_
  refine cg_region ?_
  refine lsw (want_none (by rfl)) (y_move rfl rfl) rfl (by decide) ?_
  have h := h.below (hw1.mono (by omega))
  refine lsw (want_none (by rfl)) (y_lenS (el := 5) h (by kernel_rfl) rfl rfl) rfl (by decide) ?_
  by_cases c2 : 1000 < (xs.length : Int)
  · refine lsw (want_none (by rfl)) (yb (decide_eq_true c2) (yi_gtr rfl rfl rfl)) rfl (by decide) ?_
    refine lg_nil ?_
    refine nx (E' := [(0, _), (2, _), (3, _), (10, _)]) (fk rfl (fk rfl (fk rfl (fk rfl fn)))) ?_
    refine cg_ct rfl ?_
    refine cg_seq ?_
    refine cg_region ?_
    refine lsw (want_none (by rfl)) (y_move rfl rfl) rfl (by decide) ?_
    refine lsw (want_none (by rfl)) (y_assign rfl rfl) rfl (by decide) ?_
    refine lg_nil ?_
    refine nx (E' := [(0, _), (3, _), (2, _)]) (fk rfl (fk rfl (fk rfl fn))) ?_
    refine cg_ret ?_
    refine eg_seq_ret ?_
    have u := u.trans (hw1.mono u.size)
    exact eg_ret_tmp rfl rfl ⟨_, rfl, rfl, u⟩
  · refine lsw (want_none (by rfl)) (yb (decide_eq_false c2) (yi_gtr rfl rfl rfl)) rfl (by decide) ?_
    refine lg_nil ?_
    refine nx (E' := [(0, _), (2, _), (3, _), (10, _)]) (fk rfl (fk rfl (fk rfl (fk rfl fn)))) ?_
    refine cg_cf rfl ?_
    refine cg_skip ?_
    refine nx (E' := [(0, _), (2, _), (3, _)]) (fk rfl (fk rfl (fk rfl fn))) ?_
    refine cg_seq ?_
    refine cg_region ?_
    refine lsw (want_none (by rfl)) (y_move rfl rfl) rfl (by decide) ?_
    refine lg_callw (want_none (by rfl)) (getN_any h (by omega)) (by kernel_rfl) rfl rfl rfl (by decide) ?_
    rintro _ w3 ⟨l3, r3, rfl, m3, n3, f3, hw3⟩
    have zw3 := hw3.size
    refine lsw (want_none (by rfl)) (y_move rfl rfl) rfl (by decide) ?_
    refine lsw (want_none (by rfl)) (y_extract rfl rfl rfl) rfl (by decide) ?_
    refine lsw (want_none (by rfl)) (y_extract rfl rfl rfl) rfl (by decide) ?_
    refine lsw (want_none (by rfl)) (y_extract rfl rfl rfl) rfl (by decide) ?_
    refine lg_allocw (cs := NdV.zero.cs Nd.zero) (want_none (by rfl)) rfl (by kernel_rfl) rfl (by decide) fun b4 w4 n4 => ?_
    have r4 := n4.row
    have k4 := n4.blk
    have z4 := n4.size
    have lt4 : b4 < w4.heap.size := by omega
    have o5 := r4
    refine lg_stw (want_none (by rfl)) r4 rfl rfl rfl (by kernel_rfl) (by kernel_rfl) rfl rfl fun w5 s5 => ?_
    have r4 := s5.row
    have z5 := s5.size
    refine lsw (want_none (by rfl)) (y_assign rfl rfl) rfl (by decide) ?_
    refine lsw (want_none (by rfl)) (y_assign rfl rfl) rfl (by decide) ?_
    refine lg_nil ?_
    refine nx (E' := [(0, _), (2, _), (3, _), (4, _), (5, _), (6, _)]) (fk rfl (fk rfl (fk rfl (fk rfl (fk rfl (fk rfl fn)))))) ?_
    refine cg_seq ?_
    refine cg_seq ?_
    refine cg_region ?_
    refine lsw (want_none (by rfl)) (y_move rfl rfl) rfl (by decide) ?_
    by_cases c6 : (ndGet xs).1 = 0
    · obtain ⟨ok, eq⟩ := nd_only hb c6
      have hle := congrArg List.length eq
      rw [List.length_append] at hle
      refine lsw (want_none (by rfl)) (yb (nd_f c6) (yi_neq rfl rfl rfl)) rfl (by decide) ?_
      refine lg_nil ?_
      refine nx (E' := [(0, _), (2, _), (3, _), (4, _), (5, _), (19, _)]) (fk rfl (fk rfl (fk rfl (fk rfl (fk rfl (fk rfl fn)))))) ?_
      refine cg_cf rfl ?_
      refine cg_skip ?_
      refine nx (E' := [(0, _), (2, _), (3, _), (4, _), (5, _)]) (fk rfl (fk rfl (fk rfl (fk rfl (fk rfl fn))))) ?_
      refine cg_seq ?_
      refine cg_held (by kernel_rfl) fun W7 eW7 => ?_
      have dW7 := below_drew _ _ eW7
      have zW7 := size_drew _ _ eW7
      clear eW7
      refine hg_take 0 (by rfl) (want_none (by rfl)) (by rfl) rfl (by decide) (by kernel_rfl) (by kernel_rfl) (by kernel_rfl) (fun _ _ _ h => h) (Below.refl _ _) (fun q hq => y_move rfl rfl) ?_
      refine hg_take 1 (by rfl) (want_none (by rfl)) (by rfl) rfl (by decide) (by kernel_rfl) (by kernel_rfl) (by kernel_rfl) (fun _ _ _ h => h) (Below.refl _ _) (fun q hq => y_move rfl rfl) ?_
      have r4 := RowAt.below dW7 r4.lt r4
      refine hg_take 2 (by rfl) (want_t (dj := 32) (by rfl) (by kernel_rfl) rfl) (by rfl) rfl (by decide) (by kernel_rfl) (by kernel_rfl) (by kernel_rfl) (fun _ _ _ h => h) (Below.refl _ _) (fun q hq => y_loadA (RowAt.below hq r4.lt r4) (by kernel_rfl) (by kernel_rfl) rfl rfl) ?_
      have m3 := m3.below (n4.below.mono (by omega))
      have m3 := m3.below (s5.below _ (by omega))
      have m3 := m3.below (dW7.mono (by omega))
      refine hg_one 3 (by rfl) (by kernel_rfl) (want_t (dj := 32) (by rfl) (by kernel_rfl) rfl) ?_
      refine lg_callw (want_t (dj := 32) (by rfl) (by kernel_rfl) rfl) (checkN_any (m3.more (B' := W7.heap.size) (by omega)) (Nat.le_refl _)) (by kernel_rfl) rfl rfl rfl (by decide) ?_
      rintro _ w8 ⟨rfl, hw8⟩
      have zw8 := hw8.size
      refine hg_next hw8 ?_
      refine hg_up hw8 ?_
      refine hg_take 4 (by rfl) (want_t (dj := 32) (by rfl) (by kernel_rfl) rfl) (by rfl) rfl (by decide) (by kernel_rfl) (by kernel_rfl) (by kernel_rfl) (fun _ _ _ h => h) (Below.refl _ _) (fun q hq => yb (decide_eq_true ok) (yi_eql rfl rfl rfl)) ?_
      refine hg_take 5 (by rfl) (want_none (by rfl)) (by rfl) rfl (by decide) (by kernel_rfl) (by kernel_rfl) (by kernel_rfl) (fun _ _ _ h => h) (Below.refl _ _) (fun q hq => y_pick true rfl rfl rfl) ?_
      refine hg_take 6 (by rfl) (want_none (by rfl)) (by rfl) rfl (by decide) (by kernel_rfl) (by kernel_rfl) (by kernel_rfl) (fun _ _ _ h => h) (Below.refl _ _) (fun q hq => y_move rfl rfl) ?_
      have r4 := RowAt.below hw8 r4.lt r4
      refine hg_take 7 (by rfl) (want_t (dj := 37) (by rfl) (by kernel_rfl) rfl) (by rfl) rfl (by decide) (by kernel_rfl) (by kernel_rfl) (by kernel_rfl) (fun _ _ _ h => h) (Below.refl _ _) (fun q hq => y_loadA (RowAt.below hq r4.lt r4) (by kernel_rfl) (by kernel_rfl) rfl rfl) ?_
      refine hg_take 10 (by rfl) (want_t (dj := 37) (by rfl) (by kernel_rfl) rfl) (by rfl) rfl (by decide) (by kernel_rfl) (by kernel_rfl) (by kernel_rfl) (fun _ _ _ h => h) (Below.refl _ _) (fun q hq => y_move rfl rfl) ?_
      have n3 := n3.below (n4.below.mono (by omega))
      have n3 := n3.set o5 rfl s5
      have n3 := n3.below (dW7.mono (by omega))
      have n3 := n3.below (hw8.mono (by omega))
      have by9 : Bytes ((ndGet xs).2.2) := n3.bytes
      refine hg_take 11 (by rfl) (want_t (dj := 37) (by rfl) (by kernel_rfl) rfl) (by rfl) rfl (by decide) (by kernel_rfl) (by kernel_rfl) (by kernel_rfl) (fun _ _ _ h => h) (Below.refl _ _) (fun q hq => y_strS (n3.below (hq.mono (by omega))) rfl rfl) ?_
      refine hg_take 13 (by rfl) (want_t (dj := 37) (by rfl) (by kernel_rfl) rfl) (by rfl) rfl (by decide) (by kernel_rfl) (by kernel_rfl) (by kernel_rfl) (fun _ _ _ h => h) (Below.refl _ _) (fun q hq => y_move rfl rfl) ?_
      have h := h.below (hw3.mono (by omega))
      have h := h.below (n4.below.mono (by omega))
      have h := h.set o5 rfl s5
      have h := h.below (dW7.mono (by omega))
      have h := h.below (hw8.mono (by omega))
      have by10 : Bytes xs := h.bytes
      refine hg_take 14 (by rfl) (want_t (dj := 37) (by rfl) (by kernel_rfl) rfl) (by rfl) rfl (by decide) (by kernel_rfl) (by kernel_rfl) (by kernel_rfl) (fun _ _ _ h => h) (Below.refl _ _) (fun q hq => y_strS (h.below (hq.mono (by omega))) rfl rfl) ?_
      have m3 := m3.below (hw8.mono (by omega))
      refine hg_one 8 (by rfl) (by kernel_rfl) (want_t (dj := 37) (by rfl) (by kernel_rfl) rfl) ?_
      refine lg_callw (want_t (dj := 37) (by rfl) (by kernel_rfl) rfl) (putN_any ((Sl.nil _ 0).more (B' := w8.heap.size) (by omega)) (m3.more (B' := w8.heap.size) (by omega)) (Nat.le_refl _) (by first | omega | (simp only [List.length_nil]; omega))) (by kernel_rfl) rfl rfl rfl (by decide) ?_
      rintro _ w11 ⟨r11, rfl, m11, hw11⟩
      have zw11 := hw11.size
      rw [List.nil_append] at m11
      have lp11 := ndPut_le ((ndGet xs).2.1)
      refine hg_next hw11 ?_
      refine hg_up hw11 ?_
      have by12 : Bytes (ndPut ((ndGet xs).2.1)) := m11.bytes
      refine hg_take 9 (by rfl) (want_t (dj := 37) (by rfl) (by kernel_rfl) rfl) (by rfl) rfl (by decide) (by kernel_rfl) (by kernel_rfl) (by kernel_rfl) (fun _ _ _ h => h) (Below.refl _ _) (fun q hq => y_strS (m11.below (hq.mono (by omega))) rfl rfl) ?_
      refine hg_take 12 (by rfl) (want_t (dj := 37) (by rfl) (by kernel_rfl) rfl) (by rfl) rfl (by decide) (by kernel_rfl) (by kernel_rfl) (by kernel_rfl) (fun _ _ _ h => h) (Below.refl _ _) (fun q hq => y_saddS (xs := (ndPut ((ndGet xs).2.1))) (ys := (ndGet xs).2.2) (by first | omega | (simp only [List.length_append]; omega)) rfl rfl rfl) ?_
      refine hg_take 15 (by rfl) (want_t (dj := 37) (by rfl) (by kernel_rfl) rfl) (by rfl) rfl (by decide) (by kernel_rfl) (by kernel_rfl) (by kernel_rfl) (fun _ _ _ h => h) (Below.refl _ _) (fun q hq => yb (decide_eq_true eq) (y_seqS (xs := ((ndPut ((ndGet xs).2.1)) ++ (ndGet xs).2.2)) (ys := xs) (Bytes.app by12 by9) by10 rfl rfl rfl)) ?_
      refine hg_take 16 (by rfl) (want_none (by rfl)) (by rfl) rfl (by decide) (by kernel_rfl) (by kernel_rfl) (by kernel_rfl) (fun _ _ _ h => h) (Below.refl _ _) (fun q hq => y_pick true rfl rfl rfl) ?_
      refine hg_take 17 (by rfl) (want_none (by rfl)) (by rfl) rfl (by decide) (by kernel_rfl) (by kernel_rfl) (by kernel_rfl) (fun _ _ _ h => h) (Below.refl _ _) (fun q hq => y_assign rfl rfl) ?_
      refine hg_done (by kernel_rfl) ?_
      refine nx (E' := [(2, _)]) (fk rfl fn) ?_
      refine cg_ret ?_
      have u := u.trans (hw1.mono u.size)
      have u := u.trans (hw3.mono u.size)
      have u := u.trans (n4.below.mono u.size)
      have u := u.trans (s5.below _ (by omega))
      have u := u.trans (dW7.mono u.size)
      have u := u.trans (hw8.mono u.size)
      have u := u.trans (hw11.mono u.size)
      exact eg_ret_tmp rfl rfl ⟨_, rfl, rfl, u⟩
    · have q := nd_err c6
      refine lsw (want_none (by rfl)) (yb (nd_t c6) (yi_neq rfl rfl rfl)) rfl (by decide) ?_
      refine lg_nil ?_
      refine nx (E' := [(0, _), (2, _), (3, _), (4, _), (5, _), (19, _)]) (fk rfl (fk rfl (fk rfl (fk rfl (fk rfl (fk rfl fn)))))) ?_
      refine cg_ct rfl ?_
      refine cg_seq ?_
      refine cg_region ?_
      refine lsw (want_none (by rfl)) (y_move rfl rfl) rfl (by decide) ?_
      refine lsw (want_none (by rfl)) (y_move rfl rfl) rfl (by decide) ?_
      refine lsw (want_t (dj := 21) (by rfl) (by kernel_rfl) rfl) (y_loadA r4 (by kernel_rfl) (by kernel_rfl) rfl rfl) rfl (by decide) ?_
      refine lsw (want_t (dj := 21) (by rfl) (by kernel_rfl) rfl) (y_build (cs := NdV.zero.cs Nd.zero) rfl rfl (by kernel_rfl)) rfl (by decide) ?_
      have m3 := m3.below (n4.below.mono (by omega))
      have m3 := m3.below (s5.below _ (by omega))
      refine lg_callw (want_t (dj := 21) (by rfl) (by kernel_rfl) rfl) (sameN_any (m3.more (B' := w5.heap.size) (by omega)) ((IsNd.zero _ 0).more (B' := w5.heap.size) (by omega)) (Nat.le_refl _)) (by kernel_rfl) rfl rfl rfl (by decide) ?_
      rintro u13 w13 ⟨e13, hw13⟩
      have zw13 := hw13.size
      obtain rfl : u13 = .bool true := e13.trans (congrArg Value.bool (decide_eq_true (show NdSame (ndGet xs).2.1 Nd.zero from (by rw [q]; exact nd_same _))))
      refine lsw (want_none (by rfl)) (y_pick true rfl rfl rfl) rfl (by decide) ?_
      refine lsw (want_none (by rfl)) (y_move rfl rfl) rfl (by decide) ?_
      refine lsw (want_t (dj := 26) (by rfl) (by kernel_rfl) rfl) (y_move rfl rfl) rfl (by decide) ?_
      have n3 := n3.below (n4.below.mono (by omega))
      have n3 := n3.set o5 rfl s5
      have n3 := n3.below (hw13.mono (by omega))
      refine lsw (want_t (dj := 26) (by rfl) (by kernel_rfl) rfl) (y_lenS (el := 5) n3 (by kernel_rfl) rfl rfl) rfl (by decide) ?_
      refine lsw (want_t (dj := 26) (by rfl) (by kernel_rfl) rfl) (yb (decide_eq_true (show (((ndGet xs).2.2).length : Int) = 0 from (by rw [q]; rfl))) (yi_eql rfl rfl rfl)) rfl (by decide) ?_
      refine lsw (want_none (by rfl)) (y_pick true rfl rfl rfl) rfl (by decide) ?_
      refine lsw (want_none (by rfl)) (y_assign rfl rfl) rfl (by decide) ?_
      refine lg_nil ?_
      refine nx (E' := [(0, _), (3, _), (4, _), (5, _), (2, _)]) (fk rfl (fk rfl (fk rfl (fk rfl (fk rfl fn))))) ?_
      refine cg_ret ?_
      refine eg_seq_ret ?_
      have u := u.trans (hw1.mono u.size)
      have u := u.trans (hw3.mono u.size)
      have u := u.trans (n4.below.mono u.size)
      have u := u.trans (s5.below _ (by omega))
      have u := u.trans (hw13.mono u.size)
      exact eg_ret_tmp rfl rfl ⟨_, rfl, rfl, u⟩
end Go.Proofs.Ytpmakacjhoemeaa
