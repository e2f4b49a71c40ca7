/-
  What something is wrong with is blank.
-/
import Derived.Test.YtpmakacjhoemeaaNdAwake
import Derived.Test.YtpmakacjhoemeaaNdRef
namespace Go.Proofs.Ytpmakacjhoemeaa
open Go.ChangeShapes Go.WideShapes Go.ChangeAt Go.RowKit
set_option linter.unusedVariables false

set_option maxHeartbeats 4000000 in
theorem nodeBlank_any {W : World} {l : NdV} {L : Nd} (hl : IsNd W W.heap.size l L) (i : Int) {s : SlV} {xs : List Int} (h : Sl W W.heap.size s xs) {t : SlV} {ys : List Int} (h2 : Sl W W.heap.size t ys) : Calls Try.prog 8 #[.agg (l.cs L), nv i, s.v, t.v] W fun e W' => ∃ v, e = .returned v ∧ v = .bool true ∧ Below W.heap.size W W' := by
  refine calls_cg (n := 89) Try.func8 rfl Try.ntmps8 (by simp) ?_
  show CG _ _ _ [(0, .agg (l.cs L)), (1, nv i), (2, s.v), (3, t.v)] _ _
  have u := Below.refl W.heap.size W
  refine cg_seq ?_
  refine cg_region ?_
  refine lg_boxw (want_none (by rfl)) rfl rfl (by kernel_rfl) rfl (by decide) fun b1 w1 n1 => ?_
  have r1 := n1.row
  have k1 := n1.blk
  have z1 := n1.size
  have lt1 : b1 < w1.heap.size := by omega
  refine lsw (want_none (by rfl)) (y_assign rfl rfl) rfl (by decide) ?_
  refine lg_nil ?_
  refine nx (E' := [(1, _), (2, _), (3, _), (4, _), (8, _)]) (fk rfl (fk rfl (fk rfl (fk rfl (fk rfl fn))))) ?_
  refine cg_seq ?_
  refine cg_region ?_
  refine lg_callw (want_none (by rfl)) (awakeN_any _) (by kernel_rfl) rfl rfl rfl (by decide) ?_
  rintro _ w2 ⟨rfl, hw2⟩
  have zw2 := hw2.size
  refine lsw (want_none (by rfl)) (y_assign rfl rfl) rfl (by decide) ?_
  refine lg_nil ?_
  refine nx (E' := [(1, _), (2, _), (3, _), (4, _), (8, _), (9, _)]) (fk rfl (fk rfl (fk rfl (fk rfl (fk rfl (fk rfl fn)))))) ?_
  refine cg_seq ?_
  refine cg_region ?_
  refine lsw (want_none (by rfl)) (y_build (cs := NdV.zero.cs Nd.zero) rfl rfl (by kernel_rfl)) rfl (by decide) ?_
  refine lg_allocw (cs := NdV.zero.cs Nd.zero) (want_none (by rfl)) rfl (by kernel_rfl) rfl (by decide) fun b3 w3 n3 => ?_
  have r3 := n3.row
  have k3 := n3.blk
  have z3 := n3.size
  have lt3 : b3 < w3.heap.size := by omega
  have o4 := r3
  refine lg_stw (want_none (by rfl)) r3 rfl rfl rfl (by kernel_rfl) (by kernel_rfl) rfl rfl fun w4 s4 => ?_
  have r3 := s4.row
  have z4 := s4.size
  refine lg_nil ?_
  refine nx (E' := [(1, _), (2, _), (3, _), (4, _), (8, _), (9, _), (10, _)]) (fk rfl (fk rfl (fk rfl (fk rfl (fk rfl (fk rfl (fk rfl fn))))))) ?_
  refine cg_seq ?_
  refine cg_seq ?_
  refine cg_region ?_
  have r1 := RowAt.below hw2 r1.lt r1
  have r1 := n3.keep r1
  have r1 := s4.keep r1 (by omega)
  refine lsw (want_none (by rfl)) (y_loadA r1 (by kernel_rfl) (by kernel_rfl) rfl rfl) rfl (by decide) ?_
  have hl := hl.below (n1.below.mono (by omega))
  have hl := hl.below (hw2.mono (by omega))
  have hl := hl.below (n3.below.mono (by omega))
  have hl := hl.below (s4.below _ (by omega))
  by_cases c5 : ndFew L
  · refine lg_callw (want_none (by rfl)) (fewN_any (hl.more (B' := w4.heap.size) (by omega)) (Nat.le_refl _)) (by kernel_rfl) rfl rfl rfl (by decide) ?_
    rintro u6 w6 ⟨e6, hw6⟩
    have zw6 := hw6.size
    obtain rfl : u6 = .bool true := e6.trans (congrArg Value.bool (decide_eq_true c5))
    refine lsw (want_none (by rfl)) (y_bnot rfl rfl) rfl (by decide) ?_
    refine lsw (want_none (by rfl)) (y_move rfl rfl) rfl (by decide) ?_
    refine lsw (want_t (dj := 16) (by rfl) (by kernel_rfl) rfl) (y_move rfl rfl) rfl (by decide) ?_
    have h := h.below (n1.below.mono (by omega))
    have h := h.below (hw2.mono (by omega))
    have h := h.below (n3.below.mono (by omega))
    have h := h.set o4 rfl s4
    have h := h.below (hw6.mono (by omega))
    refine lsw (want_t (dj := 16) (by rfl) (by kernel_rfl) rfl) (y_lenS (el := 5) h (by kernel_rfl) rfl rfl) rfl (by decide) ?_
    by_cases c7 : 1000 < (xs.length : Int)
    · refine lsw (want_t (dj := 16) (by rfl) (by kernel_rfl) rfl) (yb (decide_eq_true c7) (yi_gtr rfl rfl rfl)) rfl (by decide) ?_
      refine lsw (want_none (by rfl)) (y_pick false rfl rfl rfl) rfl (by decide) ?_
      refine lsw (want_none (by rfl)) (y_move rfl rfl) rfl (by decide) ?_
      refine lsk (want_f (dj := 21) (by rfl) (by kernel_rfl) rfl) rfl (by decide) ?_
      refine lsk (want_f (dj := 21) (by rfl) (by kernel_rfl) rfl) rfl (by decide) ?_
      refine lsk (want_f (dj := 21) (by rfl) (by kernel_rfl) rfl) rfl (by decide) ?_
      refine lsw (want_none (by rfl)) (y_pick true rfl rfl rfl) rfl (by decide) ?_
      refine lsw (want_none (by rfl)) (y_move rfl rfl) rfl (by decide) ?_
      refine lsk (want_f (dj := 26) (by rfl) (by kernel_rfl) rfl) rfl (by decide) ?_
      refine lsk (want_f (dj := 26) (by rfl) (by kernel_rfl) rfl) rfl (by decide) ?_
      refine lsk (want_f (dj := 26) (by rfl) (by kernel_rfl) rfl) rfl (by decide) ?_
      refine lsw (want_none (by rfl)) (y_pick true rfl rfl rfl) rfl (by decide) ?_
      refine lg_nil ?_
      refine nx (E' := [(1, _), (2, _), (3, _), (4, _), (8, _), (9, _), (10, _), (30, _)]) (fk rfl (fk rfl (fk rfl (fk rfl (fk rfl (fk rfl (fk rfl (fk rfl fn)))))))) ?_
      refine cg_ct rfl ?_
      refine cg_seq ?_
      refine cg_region ?_
      refine lsw (want_none (by rfl)) (y_move rfl rfl) rfl (by decide) ?_
      refine lsw (want_none (by rfl)) (y_move rfl rfl) rfl (by decide) ?_
      have r3 := RowAt.below hw6 r3.lt r3
      refine lsw (want_t (dj := 32) (by rfl) (by kernel_rfl) rfl) (y_loadA r3 (by kernel_rfl) (by kernel_rfl) rfl rfl) rfl (by decide) ?_
      refine lg_callw (want_t (dj := 32) (by rfl) (by kernel_rfl) rfl) (putN_any ((Sl.nil _ 0).more (B' := w6.heap.size) (by omega)) ((IsNd.zero _ 0).more (B' := w6.heap.size) (by omega)) (Nat.le_refl _) (by first | omega | (simp only [List.length_nil]; omega))) (by kernel_rfl) rfl rfl rfl (by decide) ?_
      rintro _ w8 ⟨r8, rfl, m8, hw8⟩
      have zw8 := hw8.size
      rw [List.nil_append] at m8
      have lp8 := ndPut_le Nd.zero
      have by9 : Bytes (ndPut Nd.zero) := m8.bytes
      refine lsw (want_t (dj := 32) (by rfl) (by kernel_rfl) rfl) (y_strS m8 rfl rfl) rfl (by decide) ?_
      refine lsw (want_t (dj := 32) (by rfl) (by kernel_rfl) rfl) (yb (decide_eq_true ndPut_zero) (y_seqS (xs := (ndPut Nd.zero)) (ys := ([0] : List Int)) by9 (by decide) rfl rfl (by kernel_rfl))) rfl (by decide) ?_
      refine lsw (want_none (by rfl)) (y_pick true rfl rfl rfl) rfl (by decide) ?_
      refine lsw (want_none (by rfl)) (y_move rfl rfl) rfl (by decide) ?_
      have r3 := RowAt.below hw8 r3.lt r3
      refine lsw (want_t (dj := 38) (by rfl) (by kernel_rfl) rfl) (y_loadA r3 (by kernel_rfl) (by kernel_rfl) rfl rfl) rfl (by decide) ?_
      refine lg_callw (want_t (dj := 38) (by rfl) (by kernel_rfl) rfl) (checkN_any ((IsNd.zero _ 0).more (B' := w8.heap.size) (by omega)) (Nat.le_refl _)) (by kernel_rfl) rfl rfl rfl (by decide) ?_
      rintro _ w10 ⟨rfl, hw10⟩
      have zw10 := hw10.size
      refine lsw (want_t (dj := 38) (by rfl) (by kernel_rfl) rfl) (yb (decide_eq_true nd_zero) (yi_eql rfl rfl rfl)) rfl (by decide) ?_
      refine lsw (want_none (by rfl)) (y_pick true rfl rfl rfl) rfl (by decide) ?_
      refine lsw (want_none (by rfl)) (y_assign rfl rfl) rfl (by decide) ?_
      refine lg_nil ?_
      refine nx (E' := [(1, _), (2, _), (3, _), (4, _), (9, _), (10, _), (8, _)]) (fk rfl (fk rfl (fk rfl (fk rfl (fk rfl (fk rfl (fk rfl fn))))))) ?_
      refine cg_ret ?_
      refine eg_seq_ret ?_
      have u := u.trans (n1.below.mono u.size)
      have u := u.trans (hw2.mono u.size)
      have u := u.trans (n3.below.mono u.size)
      have u := u.trans (s4.below _ (by omega))
      have u := u.trans (hw6.mono u.size)
      have u := u.trans (hw8.mono u.size)
      have u := u.trans (hw10.mono u.size)
      exact eg_ret_tmp rfl rfl ⟨_, rfl, rfl, u⟩
    · refine lsw (want_t (dj := 16) (by rfl) (by kernel_rfl) rfl) (yb (decide_eq_false c7) (yi_gtr rfl rfl rfl)) rfl (by decide) ?_
      refine lsw (want_none (by rfl)) (y_pick false rfl rfl rfl) rfl (by decide) ?_
      refine lsw (want_none (by rfl)) (y_move rfl rfl) rfl (by decide) ?_
      refine lsw (want_t (dj := 21) (by rfl) (by kernel_rfl) rfl) (y_move rfl rfl) rfl (by decide) ?_
      have h2 := h2.below (n1.below.mono (by omega))
      have h2 := h2.below (hw2.mono (by omega))
      have h2 := h2.below (n3.below.mono (by omega))
      have h2 := h2.set o4 rfl s4
      have h2 := h2.below (hw6.mono (by omega))
      refine lsw (want_t (dj := 21) (by rfl) (by kernel_rfl) rfl) (y_lenS (el := 5) h2 (by kernel_rfl) rfl rfl) rfl (by decide) ?_
      by_cases c11 : 1000 < (ys.length : Int)
      · refine lsw (want_t (dj := 21) (by rfl) (by kernel_rfl) rfl) (yb (decide_eq_true c11) (yi_gtr rfl rfl rfl)) rfl (by decide) ?_
        refine lsw (want_none (by rfl)) (y_pick false rfl rfl rfl) rfl (by decide) ?_
        refine lsw (want_none (by rfl)) (y_move rfl rfl) rfl (by decide) ?_
        refine lsk (want_f (dj := 26) (by rfl) (by kernel_rfl) rfl) rfl (by decide) ?_
        refine lsk (want_f (dj := 26) (by rfl) (by kernel_rfl) rfl) rfl (by decide) ?_
        refine lsk (want_f (dj := 26) (by rfl) (by kernel_rfl) rfl) rfl (by decide) ?_
        refine lsw (want_none (by rfl)) (y_pick true rfl rfl rfl) rfl (by decide) ?_
        refine lg_nil ?_
        refine nx (E' := [(1, _), (2, _), (3, _), (4, _), (8, _), (9, _), (10, _), (30, _)]) (fk rfl (fk rfl (fk rfl (fk rfl (fk rfl (fk rfl (fk rfl (fk rfl fn)))))))) ?_
        refine cg_ct rfl ?_
        refine cg_seq ?_
        refine cg_region ?_
        refine lsw (want_none (by rfl)) (y_move rfl rfl) rfl (by decide) ?_
        refine lsw (want_none (by rfl)) (y_move rfl rfl) rfl (by decide) ?_
        have r3 := RowAt.below hw6 r3.lt r3
        refine lsw (want_t (dj := 32) (by rfl) (by kernel_rfl) rfl) (y_loadA r3 (by kernel_rfl) (by kernel_rfl) rfl rfl) rfl (by decide) ?_
        refine lg_callw (want_t (dj := 32) (by rfl) (by kernel_rfl) rfl) (putN_any ((Sl.nil _ 0).more (B' := w6.heap.size) (by omega)) ((IsNd.zero _ 0).more (B' := w6.heap.size) (by omega)) (Nat.le_refl _) (by first | omega | (simp only [List.length_nil]; omega))) (by kernel_rfl) rfl rfl rfl (by decide) ?_
        rintro _ w12 ⟨r12, rfl, m12, hw12⟩
        have zw12 := hw12.size
        rw [List.nil_append] at m12
        have lp12 := ndPut_le Nd.zero
        have by13 : Bytes (ndPut Nd.zero) := m12.bytes
        refine lsw (want_t (dj := 32) (by rfl) (by kernel_rfl) rfl) (y_strS m12 rfl rfl) rfl (by decide) ?_
        refine lsw (want_t (dj := 32) (by rfl) (by kernel_rfl) rfl) (yb (decide_eq_true ndPut_zero) (y_seqS (xs := (ndPut Nd.zero)) (ys := ([0] : List Int)) by13 (by decide) rfl rfl (by kernel_rfl))) rfl (by decide) ?_
        refine lsw (want_none (by rfl)) (y_pick true rfl rfl rfl) rfl (by decide) ?_
        refine lsw (want_none (by rfl)) (y_move rfl rfl) rfl (by decide) ?_
        have r3 := RowAt.below hw12 r3.lt r3
        refine lsw (want_t (dj := 38) (by rfl) (by kernel_rfl) rfl) (y_loadA r3 (by kernel_rfl) (by kernel_rfl) rfl rfl) rfl (by decide) ?_
        refine lg_callw (want_t (dj := 38) (by rfl) (by kernel_rfl) rfl) (checkN_any ((IsNd.zero _ 0).more (B' := w12.heap.size) (by omega)) (Nat.le_refl _)) (by kernel_rfl) rfl rfl rfl (by decide) ?_
        rintro _ w14 ⟨rfl, hw14⟩
        have zw14 := hw14.size
        refine lsw (want_t (dj := 38) (by rfl) (by kernel_rfl) rfl) (yb (decide_eq_true nd_zero) (yi_eql rfl rfl rfl)) rfl (by decide) ?_
        refine lsw (want_none (by rfl)) (y_pick true rfl rfl rfl) rfl (by decide) ?_
        refine lsw (want_none (by rfl)) (y_assign rfl rfl) rfl (by decide) ?_
        refine lg_nil ?_
        refine nx (E' := [(1, _), (2, _), (3, _), (4, _), (9, _), (10, _), (8, _)]) (fk rfl (fk rfl (fk rfl (fk rfl (fk rfl (fk rfl (fk rfl fn))))))) ?_
        refine cg_ret ?_
        refine eg_seq_ret ?_
        have u := u.trans (n1.below.mono u.size)
        have u := u.trans (hw2.mono u.size)
        have u := u.trans (n3.below.mono u.size)
        have u := u.trans (s4.below _ (by omega))
        have u := u.trans (hw6.mono u.size)
        have u := u.trans (hw12.mono u.size)
        have u := u.trans (hw14.mono u.size)
        exact eg_ret_tmp rfl rfl ⟨_, rfl, rfl, u⟩
      · refine lsw (want_t (dj := 21) (by rfl) (by kernel_rfl) rfl) (yb (decide_eq_false c11) (yi_gtr rfl rfl rfl)) rfl (by decide) ?_
        refine lsw (want_none (by rfl)) (y_pick false rfl rfl rfl) rfl (by decide) ?_
        refine lsw (want_none (by rfl)) (y_move rfl rfl) rfl (by decide) ?_
        have r1 := RowAt.below hw6 r1.lt r1
        refine lsw (want_t (dj := 26) (by rfl) (by kernel_rfl) rfl) (y_loadA r1 (by kernel_rfl) (by kernel_rfl) rfl rfl) rfl (by decide) ?_
        have hl := hl.below (hw6.mono (by omega))
        refine lg_callw (want_t (dj := 26) (by rfl) (by kernel_rfl) rfl) (checkN_any (hl.more (B' := w6.heap.size) (by omega)) (Nat.le_refl _)) (by kernel_rfl) rfl rfl rfl (by decide) ?_
        rintro _ w15 ⟨rfl, hw15⟩
        have zw15 := hw15.size
        by_cases c16 : (ndCheck L) = 0
        · refine lsw (want_t (dj := 26) (by rfl) (by kernel_rfl) rfl) (yb (decide_eq_true c16) (yi_eql rfl rfl rfl)) rfl (by decide) ?_
          refine lsw (want_none (by rfl)) (y_pick false rfl rfl rfl) rfl (by decide) ?_
          refine lg_nil ?_
          refine nx (E' := [(1, _), (2, _), (3, _), (4, _), (8, _), (9, _), (10, _), (30, _)]) (fk rfl (fk rfl (fk rfl (fk rfl (fk rfl (fk rfl (fk rfl (fk rfl fn)))))))) ?_
          refine cg_ct rfl ?_
          refine cg_seq ?_
          refine cg_region ?_
          refine lsw (want_none (by rfl)) (y_move rfl rfl) rfl (by decide) ?_
          refine lsw (want_none (by rfl)) (y_move rfl rfl) rfl (by decide) ?_
          have r3 := RowAt.below hw6 r3.lt r3
          have r3 := RowAt.below hw15 r3.lt r3
          refine lsw (want_t (dj := 32) (by rfl) (by kernel_rfl) rfl) (y_loadA r3 (by kernel_rfl) (by kernel_rfl) rfl rfl) rfl (by decide) ?_
          refine lg_callw (want_t (dj := 32) (by rfl) (by kernel_rfl) rfl) (putN_any ((Sl.nil _ 0).more (B' := w15.heap.size) (by omega)) ((IsNd.zero _ 0).more (B' := w15.heap.size) (by omega)) (Nat.le_refl _) (by first | omega | (simp only [List.length_nil]; omega))) (by kernel_rfl) rfl rfl rfl (by decide) ?_
          rintro _ w17 ⟨r17, rfl, m17, hw17⟩
          have zw17 := hw17.size
          rw [List.nil_append] at m17
          have lp17 := ndPut_le Nd.zero
          have by18 : Bytes (ndPut Nd.zero) := m17.bytes
          refine lsw (want_t (dj := 32) (by rfl) (by kernel_rfl) rfl) (y_strS m17 rfl rfl) rfl (by decide) ?_
          refine lsw (want_t (dj := 32) (by rfl) (by kernel_rfl) rfl) (yb (decide_eq_true ndPut_zero) (y_seqS (xs := (ndPut Nd.zero)) (ys := ([0] : List Int)) by18 (by decide) rfl rfl (by kernel_rfl))) rfl (by decide) ?_
          refine lsw (want_none (by rfl)) (y_pick true rfl rfl rfl) rfl (by decide) ?_
          refine lsw (want_none (by rfl)) (y_move rfl rfl) rfl (by decide) ?_
          have r3 := RowAt.below hw17 r3.lt r3
          refine lsw (want_t (dj := 38) (by rfl) (by kernel_rfl) rfl) (y_loadA r3 (by kernel_rfl) (by kernel_rfl) rfl rfl) rfl (by decide) ?_
          refine lg_callw (want_t (dj := 38) (by rfl) (by kernel_rfl) rfl) (checkN_any ((IsNd.zero _ 0).more (B' := w17.heap.size) (by omega)) (Nat.le_refl _)) (by kernel_rfl) rfl rfl rfl (by decide) ?_
          rintro _ w19 ⟨rfl, hw19⟩
          have zw19 := hw19.size
          refine lsw (want_t (dj := 38) (by rfl) (by kernel_rfl) rfl) (yb (decide_eq_true nd_zero) (yi_eql rfl rfl rfl)) rfl (by decide) ?_
          refine lsw (want_none (by rfl)) (y_pick true rfl rfl rfl) rfl (by decide) ?_
          refine lsw (want_none (by rfl)) (y_assign rfl rfl) rfl (by decide) ?_
          refine lg_nil ?_
          refine nx (E' := [(1, _), (2, _), (3, _), (4, _), (9, _), (10, _), (8, _)]) (fk rfl (fk rfl (fk rfl (fk rfl (fk rfl (fk rfl (fk rfl fn))))))) ?_
          refine cg_ret ?_
          refine eg_seq_ret ?_
          have u := u.trans (n1.below.mono u.size)
          have u := u.trans (hw2.mono u.size)
          have u := u.trans (n3.below.mono u.size)
          have u := u.trans (s4.below _ (by omega))
          have u := u.trans (hw6.mono u.size)
          have u := u.trans (hw15.mono u.size)
          have u := u.trans (hw17.mono u.size)
          have u := u.trans (hw19.mono u.size)
          exact eg_ret_tmp rfl rfl ⟨_, rfl, rfl, u⟩
        · have p0 := ndPut_no c16
          have z0 := ndPut_zero
          refine lsw (want_t (dj := 26) (by rfl) (by kernel_rfl) rfl) (yb (decide_eq_false c16) (yi_eql rfl rfl rfl)) rfl (by decide) ?_
          refine lsw (want_none (by rfl)) (y_pick false rfl rfl rfl) rfl (by decide) ?_
          refine lg_nil ?_
          refine nx (E' := [(1, _), (2, _), (3, _), (4, _), (8, _), (9, _), (10, _), (30, _)]) (fk rfl (fk rfl (fk rfl (fk rfl (fk rfl (fk rfl (fk rfl (fk rfl fn)))))))) ?_
          refine cg_cf rfl ?_
          refine cg_skip ?_
          refine nx (E' := [(1, _), (2, _), (3, _), (4, _), (8, _), (9, _), (10, _)]) (fk rfl (fk rfl (fk rfl (fk rfl (fk rfl (fk rfl (fk rfl fn))))))) ?_
          refine cg_seq ?_
          refine cg_held (by kernel_rfl) fun W20 eW20 => ?_
          have dW20 := below_drew _ _ eW20
          have zW20 := size_drew _ _ eW20
          clear eW20
          refine hg_take 0 (by rfl) (want_none (by rfl)) (by rfl) rfl (by decide) (by kernel_rfl) (by kernel_rfl) (by kernel_rfl) (fun _ _ _ h => h) (Below.refl _ _) (fun q hq => y_move rfl rfl) ?_
          refine hg_take 1 (by rfl) (want_none (by rfl)) (by rfl) rfl (by decide) (by kernel_rfl) (by kernel_rfl) (by kernel_rfl) (fun _ _ _ h => h) (Below.refl _ _) (fun q hq => y_move rfl rfl) ?_
          refine hg_take 2 (by rfl) (want_t (dj := 44) (by rfl) (by kernel_rfl) rfl) (by rfl) rfl (by decide) (by kernel_rfl) (by kernel_rfl) (by kernel_rfl) (fun _ _ _ h => h) (Below.refl _ _) (fun q hq => y_move rfl rfl) ?_
          have r1 := RowAt.below hw15 r1.lt r1
          have r1 := RowAt.below dW20 r1.lt r1
          refine hg_take 3 (by rfl) (want_t (dj := 44) (by rfl) (by kernel_rfl) rfl) (by rfl) rfl (by decide) (by kernel_rfl) (by kernel_rfl) (by kernel_rfl) (fun _ _ _ h => h) (Below.refl _ _) (fun q hq => y_loadA (RowAt.below hq r1.lt r1) (by kernel_rfl) (by kernel_rfl) rfl rfl) ?_
          refine hg_take 6 (by rfl) (want_t (dj := 44) (by rfl) (by kernel_rfl) rfl) (by rfl) rfl (by decide) (by kernel_rfl) (by kernel_rfl) (by kernel_rfl) (fun _ _ _ h => h) (Below.refl _ _) (fun q hq => y_move rfl rfl) ?_
          have r3 := RowAt.below hw6 r3.lt r3
          have r3 := RowAt.below hw15 r3.lt r3
          have r3 := RowAt.below dW20 r3.lt r3
          refine hg_take 7 (by rfl) (want_t (dj := 44) (by rfl) (by kernel_rfl) rfl) (by rfl) rfl (by decide) (by kernel_rfl) (by kernel_rfl) (by kernel_rfl) (fun _ _ _ h => h) (Below.refl _ _) (fun q hq => y_loadA (RowAt.below hq r3.lt r3) (by kernel_rfl) (by kernel_rfl) rfl rfl) ?_
          have h := h.below (hw15.mono (by omega))
          have h := h.below (dW20.mono (by omega))
          have hl := hl.below (hw15.mono (by omega))
          have hl := hl.below (dW20.mono (by omega))
          refine hg_one 4 (by rfl) (by kernel_rfl) (want_t (dj := 44) (by rfl) (by kernel_rfl) rfl) ?_
          refine lg_callw (want_t (dj := 44) (by rfl) (by kernel_rfl) rfl) (putN_any (h.more (B' := W20.heap.size) (by omega)) (hl.more (B' := W20.heap.size) (by omega)) (Nat.le_refl _) (by first | omega | (simp only [List.length_append, List.length_cons, List.length_nil, numOct_length, flagOct_length]; omega))) (by kernel_rfl) rfl rfl rfl (by decide) ?_
          rintro _ w21 ⟨r21, rfl, m21, hw21⟩
          have zw21 := hw21.size
          have lp21 := ndPut_le L
          refine hg_next hw21 ?_
          refine hg_up hw21 ?_
          have by22 : Bytes (xs ++ ndPut L) := m21.bytes
          refine hg_take 5 (by rfl) (want_t (dj := 44) (by rfl) (by kernel_rfl) rfl) (by rfl) rfl (by decide) (by kernel_rfl) (by kernel_rfl) (by kernel_rfl) (fun _ _ _ h => h) (Below.refl _ _) (fun q hq => y_strS (m21.below (hq.mono (by omega))) rfl rfl) ?_
          have h := h.below (hw21.mono (by omega))
          refine hg_one 8 (by rfl) (by kernel_rfl) (want_t (dj := 44) (by rfl) (by kernel_rfl) rfl) ?_
          refine lg_callw (want_t (dj := 44) (by rfl) (by kernel_rfl) rfl) (putN_any (h.more (B' := w21.heap.size) (by omega)) ((IsNd.zero _ 0).more (B' := w21.heap.size) (by omega)) (Nat.le_refl _) (by first | omega | (simp only [List.length_append, List.length_cons, List.length_nil, numOct_length, flagOct_length]; omega))) (by kernel_rfl) rfl rfl rfl (by decide) ?_
          rintro _ w23 ⟨r23, rfl, m23, hw23⟩
          have zw23 := hw23.size
          have lp23 := ndPut_le Nd.zero
          refine hg_next hw23 ?_
          refine hg_up hw23 ?_
          have by24 : Bytes (xs ++ ndPut Nd.zero) := m23.bytes
          refine hg_take 9 (by rfl) (want_t (dj := 44) (by rfl) (by kernel_rfl) rfl) (by rfl) rfl (by decide) (by kernel_rfl) (by kernel_rfl) (by kernel_rfl) (fun _ _ _ h => h) (Below.refl _ _) (fun q hq => y_strS (m23.below (hq.mono (by omega))) rfl rfl) ?_
          refine hg_take 10 (by rfl) (want_t (dj := 44) (by rfl) (by kernel_rfl) rfl) (by rfl) rfl (by decide) (by kernel_rfl) (by kernel_rfl) (by kernel_rfl) (fun _ _ _ h => h) (Below.refl _ _) (fun q hq => yb (decide_eq_true (show (xs ++ ndPut L) = (xs ++ ndPut Nd.zero) from (by rw [p0, z0]))) (y_seqS (xs := (xs ++ ndPut L)) (ys := (xs ++ ndPut Nd.zero)) by22 by24 rfl rfl rfl)) ?_
          refine hg_take 11 (by rfl) (want_none (by rfl)) (by rfl) rfl (by decide) (by kernel_rfl) (by kernel_rfl) (by kernel_rfl) (fun _ _ _ h => h) (Below.refl _ _) (fun q hq => y_pick true rfl rfl rfl) ?_
          refine hg_take 12 (by rfl) (want_none (by rfl)) (by rfl) rfl (by decide) (by kernel_rfl) (by kernel_rfl) (by kernel_rfl) (fun _ _ _ h => h) (Below.refl _ _) (fun q hq => y_move rfl rfl) ?_
          refine hg_take 13 (by rfl) (want_t (dj := 55) (by rfl) (by kernel_rfl) rfl) (by rfl) rfl (by decide) (by kernel_rfl) (by kernel_rfl) (by kernel_rfl) (fun _ _ _ h => h) (Below.refl _ _) (fun q hq => y_move rfl rfl) ?_
          have r1 := RowAt.below hw21 r1.lt r1
          have r1 := RowAt.below hw23 r1.lt r1
          refine hg_take 14 (by rfl) (want_t (dj := 55) (by rfl) (by kernel_rfl) rfl) (by rfl) rfl (by decide) (by kernel_rfl) (by kernel_rfl) (by kernel_rfl) (fun _ _ _ h => h) (Below.refl _ _) (fun q hq => y_loadA (RowAt.below hq r1.lt r1) (by kernel_rfl) (by kernel_rfl) rfl rfl) ?_
          refine hg_take 17 (by rfl) (want_t (dj := 55) (by rfl) (by kernel_rfl) rfl) (by rfl) rfl (by decide) (by kernel_rfl) (by kernel_rfl) (by kernel_rfl) (fun _ _ _ h => h) (Below.refl _ _) (fun q hq => y_move rfl rfl) ?_
          have r3 := RowAt.below hw21 r3.lt r3
          have r3 := RowAt.below hw23 r3.lt r3
          refine hg_take 18 (by rfl) (want_t (dj := 55) (by rfl) (by kernel_rfl) rfl) (by rfl) rfl (by decide) (by kernel_rfl) (by kernel_rfl) (by kernel_rfl) (fun _ _ _ h => h) (Below.refl _ _) (fun q hq => y_loadA (RowAt.below hq r3.lt r3) (by kernel_rfl) (by kernel_rfl) rfl rfl) ?_
          have hl := hl.below (hw21.mono (by omega))
          have hl := hl.below (hw23.mono (by omega))
          refine hg_one 15 (by rfl) (by kernel_rfl) (want_t (dj := 55) (by rfl) (by kernel_rfl) rfl) ?_
          refine lg_callw (want_t (dj := 55) (by rfl) (by kernel_rfl) rfl) (ofLeafN_any i (hl.more (B' := w23.heap.size) (by omega)) (Nat.le_refl _)) (by kernel_rfl) rfl rfl rfl (by decide) ?_
          rintro _ w25 ⟨r25, rfl, m25, hw25⟩
          have zw25 := hw25.size
          have lp25 := ofLeafO_le i L
          refine hg_next hw25 ?_
          refine hg_up hw25 ?_
          have by26 : Bytes (ofLeafO i L) := m25.bytes
          refine hg_take 16 (by rfl) (want_t (dj := 55) (by rfl) (by kernel_rfl) rfl) (by rfl) rfl (by decide) (by kernel_rfl) (by kernel_rfl) (by kernel_rfl) (fun _ _ _ h => h) (Below.refl _ _) (fun q hq => y_strS (m25.below (hq.mono (by omega))) rfl rfl) ?_
          refine hg_one 19 (by rfl) (by kernel_rfl) (want_t (dj := 55) (by rfl) (by kernel_rfl) rfl) ?_
          refine lg_callw (want_t (dj := 55) (by rfl) (by kernel_rfl) rfl) (ofLeafN_any i ((IsNd.zero _ 0).more (B' := w25.heap.size) (by omega)) (Nat.le_refl _)) (by kernel_rfl) rfl rfl rfl (by decide) ?_
          rintro _ w27 ⟨r27, rfl, m27, hw27⟩
          have zw27 := hw27.size
          have lp27 := ofLeafO_le i Nd.zero
          refine hg_next hw27 ?_
          refine hg_up hw27 ?_
          have by28 : Bytes (ofLeafO i Nd.zero) := m27.bytes
          refine hg_take 20 (by rfl) (want_t (dj := 55) (by rfl) (by kernel_rfl) rfl) (by rfl) rfl (by decide) (by kernel_rfl) (by kernel_rfl) (by kernel_rfl) (fun _ _ _ h => h) (Below.refl _ _) (fun q hq => y_strS (m27.below (hq.mono (by omega))) rfl rfl) ?_
          refine hg_take 21 (by rfl) (want_t (dj := 55) (by rfl) (by kernel_rfl) rfl) (by rfl) rfl (by decide) (by kernel_rfl) (by kernel_rfl) (by kernel_rfl) (fun _ _ _ h => h) (Below.refl _ _) (fun q hq => yb (decide_eq_true (show (ofLeafO i L) = (ofLeafO i Nd.zero) from (nd_blank_leaf c16 i))) (y_seqS (xs := (ofLeafO i L)) (ys := (ofLeafO i Nd.zero)) by26 by28 rfl rfl rfl)) ?_
          refine hg_take 22 (by rfl) (want_none (by rfl)) (by rfl) rfl (by decide) (by kernel_rfl) (by kernel_rfl) (by kernel_rfl) (fun _ _ _ h => h) (Below.refl _ _) (fun q hq => y_pick true rfl rfl rfl) ?_
          refine hg_take 23 (by rfl) (want_none (by rfl)) (by rfl) rfl (by decide) (by kernel_rfl) (by kernel_rfl) (by kernel_rfl) (fun _ _ _ h => h) (Below.refl _ _) (fun q hq => y_move rfl rfl) ?_
          have r1 := RowAt.below hw25 r1.lt r1
          have r1 := RowAt.below hw27 r1.lt r1
          refine hg_take 24 (by rfl) (want_t (dj := 66) (by rfl) (by kernel_rfl) rfl) (by rfl) rfl (by decide) (by kernel_rfl) (by kernel_rfl) (by kernel_rfl) (fun _ _ _ h => h) (Below.refl _ _) (fun q hq => y_loadA (RowAt.below hq r1.lt r1) (by kernel_rfl) (by kernel_rfl) rfl rfl) ?_
          refine hg_take 25 (by rfl) (want_t (dj := 66) (by rfl) (by kernel_rfl) rfl) (by rfl) rfl (by decide) (by kernel_rfl) (by kernel_rfl) (by kernel_rfl) (fun _ _ _ h => h) (Below.refl _ _) (fun q hq => y_move rfl rfl) ?_
          refine hg_take 26 (by rfl) (want_t (dj := 66) (by rfl) (by kernel_rfl) rfl) (by rfl) rfl (by decide) (by kernel_rfl) (by kernel_rfl) (by kernel_rfl) (fun _ _ _ h => h) (Below.refl _ _) (fun q hq => y_move rfl rfl) ?_
          have r3 := RowAt.below hw25 r3.lt r3
          have r3 := RowAt.below hw27 r3.lt r3
          refine hg_take 29 (by rfl) (want_t (dj := 66) (by rfl) (by kernel_rfl) rfl) (by rfl) rfl (by decide) (by kernel_rfl) (by kernel_rfl) (by kernel_rfl) (fun _ _ _ h => h) (Below.refl _ _) (fun q hq => y_loadA (RowAt.below hq r3.lt r3) (by kernel_rfl) (by kernel_rfl) rfl rfl) ?_
          refine hg_take 30 (by rfl) (want_t (dj := 66) (by rfl) (by kernel_rfl) rfl) (by rfl) rfl (by decide) (by kernel_rfl) (by kernel_rfl) (by kernel_rfl) (fun _ _ _ h => h) (Below.refl _ _) (fun q hq => y_move rfl rfl) ?_
          refine hg_take 31 (by rfl) (want_t (dj := 66) (by rfl) (by kernel_rfl) rfl) (by rfl) rfl (by decide) (by kernel_rfl) (by kernel_rfl) (by kernel_rfl) (fun _ _ _ h => h) (Below.refl _ _) (fun q hq => y_move rfl rfl) ?_
          have hl := hl.below (hw25.mono (by omega))
          have hl := hl.below (hw27.mono (by omega))
          have h := h.below (hw23.mono (by omega))
          have h := h.below (hw25.mono (by omega))
          have h := h.below (hw27.mono (by omega))
          have h2 := h2.below (hw15.mono (by omega))
          have h2 := h2.below (dW20.mono (by omega))
          have h2 := h2.below (hw21.mono (by omega))
          have h2 := h2.below (hw23.mono (by omega))
          have h2 := h2.below (hw25.mono (by omega))
          have h2 := h2.below (hw27.mono (by omega))
          refine hg_one 27 (by rfl) (by kernel_rfl) (want_t (dj := 66) (by rfl) (by kernel_rfl) rfl) ?_
          refine lg_callw (want_t (dj := 66) (by rfl) (by kernel_rfl) rfl) (ofInnerN_any (hl.more (B' := w27.heap.size) (by omega)) (h.more (B' := w27.heap.size) (by omega)) (h2.more (B' := w27.heap.size) (by omega)) (Nat.le_refl _) (by first | omega | (simp only [List.length_append, List.length_cons, List.length_nil, numOct_length, flagOct_length]; omega)) (by first | omega | (simp only [List.length_append, List.length_cons, List.length_nil, numOct_length, flagOct_length]; omega))) (by kernel_rfl) rfl rfl rfl (by decide) ?_
          rintro _ w29 ⟨r29, rfl, m29, hw29⟩
          have zw29 := hw29.size
          have lp29 := ofInnerO_le L xs ys
          refine hg_next hw29 ?_
          refine hg_up hw29 ?_
          have by30 : Bytes (ofInnerO L xs ys) := m29.bytes
          refine hg_take 28 (by rfl) (want_t (dj := 66) (by rfl) (by kernel_rfl) rfl) (by rfl) rfl (by decide) (by kernel_rfl) (by kernel_rfl) (by kernel_rfl) (fun _ _ _ h => h) (Below.refl _ _) (fun q hq => y_strS (m29.below (hq.mono (by omega))) rfl rfl) ?_
          have h := h.below (hw29.mono (by omega))
          have h2 := h2.below (hw29.mono (by omega))
          refine hg_one 32 (by rfl) (by kernel_rfl) (want_t (dj := 66) (by rfl) (by kernel_rfl) rfl) ?_
          refine lg_callw (want_t (dj := 66) (by rfl) (by kernel_rfl) rfl) (ofInnerN_any ((IsNd.zero _ 0).more (B' := w29.heap.size) (by omega)) (h.more (B' := w29.heap.size) (by omega)) (h2.more (B' := w29.heap.size) (by omega)) (Nat.le_refl _) (by first | omega | (simp only [List.length_append, List.length_cons, List.length_nil, numOct_length, flagOct_length]; omega)) (by first | omega | (simp only [List.length_append, List.length_cons, List.length_nil, numOct_length, flagOct_length]; omega))) (by kernel_rfl) rfl rfl rfl (by decide) ?_
          rintro _ w31 ⟨r31, rfl, m31, hw31⟩
          have zw31 := hw31.size
          have lp31 := ofInnerO_le Nd.zero xs ys
          refine hg_next hw31 ?_
          refine hg_up hw31 ?_
          have by32 : Bytes (ofInnerO Nd.zero xs ys) := m31.bytes
          refine hg_take 33 (by rfl) (want_t (dj := 66) (by rfl) (by kernel_rfl) rfl) (by rfl) rfl (by decide) (by kernel_rfl) (by kernel_rfl) (by kernel_rfl) (fun _ _ _ h => h) (Below.refl _ _) (fun q hq => y_strS (m31.below (hq.mono (by omega))) rfl rfl) ?_
          refine hg_take 34 (by rfl) (want_t (dj := 66) (by rfl) (by kernel_rfl) rfl) (by rfl) rfl (by decide) (by kernel_rfl) (by kernel_rfl) (by kernel_rfl) (fun _ _ _ h => h) (Below.refl _ _) (fun q hq => yb (decide_eq_true (show (ofInnerO L xs ys) = (ofInnerO Nd.zero xs ys) from (nd_blank_inner c16 xs ys))) (y_seqS (xs := (ofInnerO L xs ys)) (ys := (ofInnerO Nd.zero xs ys)) by30 by32 rfl rfl rfl)) ?_
          refine hg_take 35 (by rfl) (want_none (by rfl)) (by rfl) rfl (by decide) (by kernel_rfl) (by kernel_rfl) (by kernel_rfl) (fun _ _ _ h => h) (Below.refl _ _) (fun q hq => y_pick true rfl rfl rfl) ?_
          refine hg_take 36 (by rfl) (want_none (by rfl)) (by rfl) rfl (by decide) (by kernel_rfl) (by kernel_rfl) (by kernel_rfl) (fun _ _ _ h => h) (Below.refl _ _) (fun q hq => y_move rfl rfl) ?_
          refine hg_take 37 (by rfl) (want_t (dj := 79) (by rfl) (by kernel_rfl) rfl) (by rfl) rfl (by decide) (by kernel_rfl) (by kernel_rfl) (by kernel_rfl) (fun _ _ _ h => h) (Below.refl _ _) (fun q hq => y_move rfl rfl) ?_
          have r1 := RowAt.below hw29 r1.lt r1
          have r1 := RowAt.below hw31 r1.lt r1
          refine hg_take 38 (by rfl) (want_t (dj := 79) (by rfl) (by kernel_rfl) rfl) (by rfl) rfl (by decide) (by kernel_rfl) (by kernel_rfl) (by kernel_rfl) (fun _ _ _ h => h) (Below.refl _ _) (fun q hq => y_loadA (RowAt.below hq r1.lt r1) (by kernel_rfl) (by kernel_rfl) rfl rfl) ?_
          refine hg_take 41 (by rfl) (want_t (dj := 79) (by rfl) (by kernel_rfl) rfl) (by rfl) rfl (by decide) (by kernel_rfl) (by kernel_rfl) (by kernel_rfl) (fun _ _ _ h => h) (Below.refl _ _) (fun q hq => y_move rfl rfl) ?_
          have h := h.below (hw31.mono (by omega))
          refine hg_take 42 (by rfl) (want_t (dj := 79) (by rfl) (by kernel_rfl) rfl) (by rfl) rfl (by decide) (by kernel_rfl) (by kernel_rfl) (by kernel_rfl) (fun _ _ _ h => h) (Below.refl _ _) (fun q hq => y_lenS (el := 5) h (by kernel_rfl) rfl rfl) ?_
          refine hg_take 43 (by rfl) (want_t (dj := 79) (by rfl) (by kernel_rfl) rfl) (by rfl) rfl (by decide) (by kernel_rfl) (by kernel_rfl) (by kernel_rfl) (fun _ _ _ h => h) (Below.refl _ _) (fun q hq => yi_add rfl rfl rfl (by omega) (by omega)) ?_
          have hl := hl.below (hw29.mono (by omega))
          have hl := hl.below (hw31.mono (by omega))
          refine hg_one 39 (by rfl) (by kernel_rfl) (want_t (dj := 79) (by rfl) (by kernel_rfl) rfl) ?_
          refine lg_callw (want_t (dj := 79) (by rfl) (by kernel_rfl) rfl) (putN_any (h.more (B' := w31.heap.size) (by omega)) (hl.more (B' := w31.heap.size) (by omega)) (Nat.le_refl _) (by first | omega | (simp only [List.length_append, List.length_cons, List.length_nil, numOct_length, flagOct_length]; omega))) (by kernel_rfl) rfl rfl rfl (by decide) ?_
          rintro _ w33 ⟨r33, rfl, m33, hw33⟩
          have zw33 := hw33.size
          have lp33 := ndPut_le L
          refine hg_next hw33 ?_
          refine hg_up hw33 ?_
          refine hg_take 40 (by rfl) (want_t (dj := 79) (by rfl) (by kernel_rfl) rfl) (by rfl) rfl (by decide) (by kernel_rfl) (by kernel_rfl) (by kernel_rfl) (fun _ _ _ h => h) (Below.refl _ _) (fun q hq => y_lenS (el := 5) m33 (by kernel_rfl) rfl rfl) ?_
          refine hg_take 44 (by rfl) (want_t (dj := 79) (by rfl) (by kernel_rfl) rfl) (by rfl) rfl (by decide) (by kernel_rfl) (by kernel_rfl) (by kernel_rfl) (fun _ _ _ h => h) (Below.refl _ _) (fun q hq => yb (decide_eq_true (show ((xs ++ ndPut L).length : Int) = ((xs.length : Int) + 1) from (by rw [p0, List.length_append]; rfl))) (yi_eql rfl rfl rfl)) ?_
          refine hg_take 45 (by rfl) (want_none (by rfl)) (by rfl) rfl (by decide) (by kernel_rfl) (by kernel_rfl) (by kernel_rfl) (fun _ _ _ h => h) (Below.refl _ _) (fun q hq => y_pick true rfl rfl rfl) ?_
          refine hg_take 46 (by rfl) (want_none (by rfl)) (by rfl) rfl (by decide) (by kernel_rfl) (by kernel_rfl) (by kernel_rfl) (fun _ _ _ h => h) (Below.refl _ _) (fun q hq => y_assign rfl rfl) ?_
          refine hg_done (by kernel_rfl) ?_
          refine nx (E' := [(8, _)]) (fk rfl fn) ?_
          refine cg_ret ?_
          have u := u.trans (n1.below.mono u.size)
          have u := u.trans (hw2.mono u.size)
          have u := u.trans (n3.below.mono u.size)
          have u := u.trans (s4.below _ (by omega))
          have u := u.trans (hw6.mono u.size)
          have u := u.trans (hw15.mono u.size)
          have u := u.trans (dW20.mono u.size)
          have u := u.trans (hw21.mono u.size)
          have u := u.trans (hw23.mono u.size)
          have u := u.trans (hw25.mono u.size)
          have u := u.trans (hw27.mono u.size)
          have u := u.trans (hw29.mono u.size)
          have u := u.trans (hw31.mono u.size)
          have u := u.trans (hw33.mono u.size)
          exact eg_ret_tmp rfl rfl ⟨_, rfl, rfl, u⟩
  · refine lg_callw (want_none (by rfl)) (fewN_any (hl.more (B' := w4.heap.size) (by omega)) (Nat.le_refl _)) (by kernel_rfl) rfl rfl rfl (by decide) ?_
    rintro u34 w34 ⟨e34, hw34⟩
    have zw34 := hw34.size
    obtain rfl : u34 = .bool false := e34.trans (congrArg Value.bool (decide_eq_false c5))
    refine lsw (want_none (by rfl)) (y_bnot rfl rfl) rfl (by decide) ?_
    refine lsw (want_none (by rfl)) (y_move rfl rfl) rfl (by decide) ?_
    refine lsk (want_f (dj := 16) (by rfl) (by kernel_rfl) rfl) rfl (by decide) ?_
    refine lsk (want_f (dj := 16) (by rfl) (by kernel_rfl) rfl) rfl (by decide) ?_
    refine lsk (want_f (dj := 16) (by rfl) (by kernel_rfl) rfl) rfl (by decide) ?_
    refine lsw (want_none (by rfl)) (y_pick true rfl rfl rfl) rfl (by decide) ?_
    refine lsw (want_none (by rfl)) (y_move rfl rfl) rfl (by decide) ?_
    refine lsk (want_f (dj := 21) (by rfl) (by kernel_rfl) rfl) rfl (by decide) ?_
    refine lsk (want_f (dj := 21) (by rfl) (by kernel_rfl) rfl) rfl (by decide) ?_
    refine lsk (want_f (dj := 21) (by rfl) (by kernel_rfl) rfl) rfl (by decide) ?_
    refine lsw (want_none (by rfl)) (y_pick true rfl rfl rfl) rfl (by decide) ?_
    refine lsw (want_none (by rfl)) (y_move rfl rfl) rfl (by decide) ?_
    refine lsk (want_f (dj := 26) (by rfl) (by kernel_rfl) rfl) rfl (by decide) ?_
    refine lsk (want_f (dj := 26) (by rfl) (by kernel_rfl) rfl) rfl (by decide) ?_
    refine lsk (want_f (dj := 26) (by rfl) (by kernel_rfl) rfl) rfl (by decide) ?_
    refine lsw (want_none (by rfl)) (y_pick true rfl rfl rfl) rfl (by decide) ?_
    refine lg_nil ?_
    refine nx (E' := [(1, _), (2, _), (3, _), (4, _), (8, _), (9, _), (10, _), (30, _)]) (fk rfl (fk rfl (fk rfl (fk rfl (fk rfl (fk rfl (fk rfl (fk rfl fn)))))))) ?_
    refine cg_ct rfl ?_
    refine cg_seq ?_
    refine cg_region ?_
    refine lsw (want_none (by rfl)) (y_move rfl rfl) rfl (by decide) ?_
    refine lsw (want_none (by rfl)) (y_move rfl rfl) rfl (by decide) ?_
    have r3 := RowAt.below hw34 r3.lt r3
    refine lsw (want_t (dj := 32) (by rfl) (by kernel_rfl) rfl) (y_loadA r3 (by kernel_rfl) (by kernel_rfl) rfl rfl) rfl (by decide) ?_
    refine lg_callw (want_t (dj := 32) (by rfl) (by kernel_rfl) rfl) (putN_any ((Sl.nil _ 0).more (B' := w34.heap.size) (by omega)) ((IsNd.zero _ 0).more (B' := w34.heap.size) (by omega)) (Nat.le_refl _) (by first | omega | (simp only [List.length_nil]; omega))) (by kernel_rfl) rfl rfl rfl (by decide) ?_
    rintro _ w35 ⟨r35, rfl, m35, hw35⟩
    have zw35 := hw35.size
    rw [List.nil_append] at m35
    have lp35 := ndPut_le Nd.zero
    have by36 : Bytes (ndPut Nd.zero) := m35.bytes
    refine lsw (want_t (dj := 32) (by rfl) (by kernel_rfl) rfl) (y_strS m35 rfl rfl) rfl (by decide) ?_
    refine lsw (want_t (dj := 32) (by rfl) (by kernel_rfl) rfl) (yb (decide_eq_true ndPut_zero) (y_seqS (xs := (ndPut Nd.zero)) (ys := ([0] : List Int)) by36 (by decide) rfl rfl (by kernel_rfl))) rfl (by decide) ?_
    refine lsw (want_none (by rfl)) (y_pick true rfl rfl rfl) rfl (by decide) ?_
    refine lsw (want_none (by rfl)) (y_move rfl rfl) rfl (by decide) ?_
    have r3 := RowAt.below hw35 r3.lt r3
    refine lsw (want_t (dj := 38) (by rfl) (by kernel_rfl) rfl) (y_loadA r3 (by kernel_rfl) (by kernel_rfl) rfl rfl) rfl (by decide) ?_
    refine lg_callw (want_t (dj := 38) (by rfl) (by kernel_rfl) rfl) (checkN_any ((IsNd.zero _ 0).more (B' := w35.heap.size) (by omega)) (Nat.le_refl _)) (by kernel_rfl) rfl rfl rfl (by decide) ?_
    rintro _ w37 ⟨rfl, hw37⟩
    have zw37 := hw37.size
    refine lsw (want_t (dj := 38) (by rfl) (by kernel_rfl) rfl) (yb (decide_eq_true nd_zero) (yi_eql rfl rfl rfl)) rfl (by decide) ?_
    refine lsw (want_none (by rfl)) (y_pick true rfl rfl rfl) rfl (by decide) ?_
    refine lsw (want_none (by rfl)) (y_assign rfl rfl) rfl (by decide) ?_
    refine lg_nil ?_
    refine nx (E' := [(1, _), (2, _), (3, _), (4, _), (9, _), (10, _), (8, _)]) (fk rfl (fk rfl (fk rfl (fk rfl (fk rfl (fk rfl (fk rfl fn))))))) ?_
    refine cg_ret ?_
    refine eg_seq_ret ?_
    have u := u.trans (n1.below.mono u.size)
    have u := u.trans (hw2.mono u.size)
    have u := u.trans (n3.below.mono u.size)
    have u := u.trans (s4.below _ (by omega))
    have u := u.trans (hw34.mono u.size)
    have u := u.trans (hw35.mono u.size)
    have u := u.trans (hw37.mono u.size)
    exact eg_ret_tmp rfl rfl ⟨_, rfl, rfl, u⟩
end Go.Proofs.Ytpmakacjhoemeaa
