/-
  What is summed up tells all.
-/
import Derived.Test.YtpmakacjhoemeaaNdAwake
import Derived.Test.YtpmakacjhoemeaaNdRef
namespace Go.Proofs.Ytpmakacjhoemeaa
open Go.ChangeShapes Go.WideShapes Go.ChangeAt Go.RowKit
set_option linter.unusedVariables false

set_option maxHeartbeats 4000000 in
theorem nodeApart_any {W : World} {l : NdV} {L : Nd} (hl : IsNd W W.heap.size l L) {m : NdV} {M : Nd} (hm : IsNd W W.heap.size m M) (i j : Int) {s : SlV} {xs : List Int} (h : Sl W W.heap.size s xs) {t : SlV} {ys : List Int} (h2 : Sl W W.heap.size t ys) : Calls Try.prog 6 #[.agg (l.cs L), .agg (m.cs M), nv i, nv j, s.v, t.v] W fun e W' => ∃ v, e = .returned v ∧ v = .bool true ∧ Below W.heap.size W W' := by
  refine calls_cg (n := 135) Try.func6 rfl Try.ntmps6 (by simp) ?_
  show CG _ _ _ [(0, .agg (l.cs L)), (1, .agg (m.cs M)), (2, nv i), (3, nv j), (4, s.v), (5, t.v)] _ _
  have u := Below.refl W.heap.size W
  refine cg_seq ?_
  refine cg_region ?_
  refine lg_boxw (want_none (by rfl)) rfl rfl (by kernel_rfl) rfl (by decide) fun b1 w1 n1 => ?_
  have r1 := n1.row
  have k1 := n1.blk
  have z1 := n1.size
  have lt1 : b1 < w1.heap.size := by omega
  refine lg_boxw (want_none (by rfl)) rfl rfl (by kernel_rfl) rfl (by decide) fun b2 w2 n2 => ?_
  have r2 := n2.row
  have k2 := n2.blk
  have z2 := n2.size
  have lt2 : b2 < w2.heap.size := by omega
  refine lsw (want_none (by rfl)) (y_assign rfl rfl) rfl (by decide) ?_
  refine lg_nil ?_
  refine nx (E' := [(2, _), (3, _), (4, _), (5, _), (6, _), (7, _), (12, _)]) (fk rfl (fk rfl (fk rfl (fk rfl (fk rfl (fk rfl (fk rfl fn))))))) ?_
  refine cg_seq ?_
  refine cg_region ?_
  refine lg_callw (want_none (by rfl)) (awakeN_any _) (by kernel_rfl) rfl rfl rfl (by decide) ?_
  rintro _ w3 ⟨rfl, hw3⟩
  have zw3 := hw3.size
  refine lsw (want_none (by rfl)) (y_assign rfl rfl) rfl (by decide) ?_
  refine lg_nil ?_
  refine nx (E' := [(2, _), (3, _), (4, _), (5, _), (6, _), (7, _), (12, _), (13, _)]) (fk rfl (fk rfl (fk rfl (fk rfl (fk rfl (fk rfl (fk rfl (fk rfl fn)))))))) ?_
  refine cg_seq ?_
  refine cg_seq ?_
  refine cg_region ?_
  have r1 := n2.keep r1
  have r1 := RowAt.below hw3 r1.lt r1
  refine lsw (want_none (by rfl)) (y_loadA r1 (by kernel_rfl) (by kernel_rfl) rfl rfl) rfl (by decide) ?_
  have hl := hl.below (n1.below.mono (by omega))
  have hl := hl.below (n2.below.mono (by omega))
  have hl := hl.below (hw3.mono (by omega))
  by_cases c4 : ndFew L
  · refine lg_callw (want_none (by rfl)) (fewN_any (hl.more (B' := w3.heap.size) (by omega)) (Nat.le_refl _)) (by kernel_rfl) rfl rfl rfl (by decide) ?_
    rintro u5 w5 ⟨e5, hw5⟩
    have zw5 := hw5.size
    obtain rfl : u5 = .bool true := e5.trans (congrArg Value.bool (decide_eq_true c4))
    refine lsw (want_none (by rfl)) (y_bnot rfl rfl) rfl (by decide) ?_
    refine lsw (want_none (by rfl)) (y_move rfl rfl) rfl (by decide) ?_
    have r2 := RowAt.below hw3 r2.lt r2
    have r2 := RowAt.below hw5 r2.lt r2
    refine lsw (want_t (dj := 24) (by rfl) (by kernel_rfl) rfl) (y_loadA r2 (by kernel_rfl) (by kernel_rfl) rfl rfl) rfl (by decide) ?_
    have hm := hm.below (n1.below.mono (by omega))
    have hm := hm.below (n2.below.mono (by omega))
    have hm := hm.below (hw3.mono (by omega))
    have hm := hm.below (hw5.mono (by omega))
    by_cases c6 : ndFew M
    · refine lg_callw (want_t (dj := 24) (by rfl) (by kernel_rfl) rfl) (fewN_any (hm.more (B' := w5.heap.size) (by omega)) (Nat.le_refl _)) (by kernel_rfl) rfl rfl rfl (by decide) ?_
      rintro u7 w7 ⟨e7, hw7⟩
      have zw7 := hw7.size
      obtain rfl : u7 = .bool true := e7.trans (congrArg Value.bool (decide_eq_true c6))
      refine lsw (want_t (dj := 24) (by rfl) (by kernel_rfl) rfl) (y_bnot rfl rfl) rfl (by decide) ?_
      refine lsw (want_none (by rfl)) (y_pick false rfl rfl rfl) rfl (by decide) ?_
      refine lsw (want_none (by rfl)) (y_move rfl rfl) rfl (by decide) ?_
      refine lsw (want_t (dj := 29) (by rfl) (by kernel_rfl) rfl) (y_move rfl rfl) rfl (by decide) ?_
      have h := h.below (n1.below.mono (by omega))
      have h := h.below (n2.below.mono (by omega))
      have h := h.below (hw3.mono (by omega))
      have h := h.below (hw5.mono (by omega))
      have h := h.below (hw7.mono (by omega))
      refine lsw (want_t (dj := 29) (by rfl) (by kernel_rfl) rfl) (y_lenS (el := 5) h (by kernel_rfl) rfl rfl) rfl (by decide) ?_
      by_cases c8 : 1000 < (xs.length : Int)
      · refine lsw (want_t (dj := 29) (by rfl) (by kernel_rfl) rfl) (yb (decide_eq_true c8) (yi_gtr rfl rfl rfl)) rfl (by decide) ?_
        refine lsw (want_none (by rfl)) (y_pick false rfl rfl rfl) rfl (by decide) ?_
        refine lsw (want_none (by rfl)) (y_move rfl rfl) rfl (by decide) ?_
        refine lsk (want_f (dj := 34) (by rfl) (by kernel_rfl) rfl) rfl (by decide) ?_
        refine lsk (want_f (dj := 34) (by rfl) (by kernel_rfl) rfl) rfl (by decide) ?_
        refine lsk (want_f (dj := 34) (by rfl) (by kernel_rfl) rfl) rfl (by decide) ?_
        refine lsw (want_none (by rfl)) (y_pick true rfl rfl rfl) rfl (by decide) ?_
        refine lsw (want_none (by rfl)) (y_move rfl rfl) rfl (by decide) ?_
        refine lsk (want_f (dj := 39) (by rfl) (by kernel_rfl) rfl) rfl (by decide) ?_
        refine lsk (want_f (dj := 39) (by rfl) (by kernel_rfl) rfl) rfl (by decide) ?_
        refine lsk (want_f (dj := 39) (by rfl) (by kernel_rfl) rfl) rfl (by decide) ?_
        refine lsw (want_none (by rfl)) (y_pick true rfl rfl rfl) rfl (by decide) ?_
        refine lsw (want_none (by rfl)) (y_move rfl rfl) rfl (by decide) ?_
        refine lsk (want_f (dj := 44) (by rfl) (by kernel_rfl) rfl) rfl (by decide) ?_
        refine lsk (want_f (dj := 44) (by rfl) (by kernel_rfl) rfl) rfl (by decide) ?_
        refine lsk (want_f (dj := 44) (by rfl) (by kernel_rfl) rfl) rfl (by decide) ?_
        refine lsw (want_none (by rfl)) (y_pick true rfl rfl rfl) rfl (by decide) ?_
        refine lg_nil ?_
        refine nx (E' := [(2, _), (3, _), (4, _), (5, _), (6, _), (7, _), (12, _), (13, _), (48, _)]) (fk rfl (fk rfl (fk rfl (fk rfl (fk rfl (fk rfl (fk rfl (fk rfl (fk rfl fn))))))))) ?_
        refine cg_ct rfl ?_
        refine cg_seq ?_
        refine cg_region ?_
        refine lsw (want_none (by rfl)) (y_move rfl rfl) rfl (by decide) ?_
        refine lsw (want_none (by rfl)) (y_assign rfl rfl) rfl (by decide) ?_
        refine lg_nil ?_
        refine nx (E' := [(2, _), (3, _), (4, _), (5, _), (6, _), (7, _), (13, _), (12, _)]) (fk rfl (fk rfl (fk rfl (fk rfl (fk rfl (fk rfl (fk rfl (fk rfl fn)))))))) ?_
        refine cg_ret ?_
        refine eg_seq_ret ?_
        have u := u.trans (n1.below.mono u.size)
        have u := u.trans (n2.below.mono u.size)
        have u := u.trans (hw3.mono u.size)
        have u := u.trans (hw5.mono u.size)
        have u := u.trans (hw7.mono u.size)
        exact eg_ret_tmp rfl rfl ⟨_, rfl, rfl, u⟩
      · refine lsw (want_t (dj := 29) (by rfl) (by kernel_rfl) rfl) (yb (decide_eq_false c8) (yi_gtr rfl rfl rfl)) rfl (by decide) ?_
        refine lsw (want_none (by rfl)) (y_pick false rfl rfl rfl) rfl (by decide) ?_
        refine lsw (want_none (by rfl)) (y_move rfl rfl) rfl (by decide) ?_
        refine lsw (want_t (dj := 34) (by rfl) (by kernel_rfl) rfl) (y_move rfl rfl) rfl (by decide) ?_
        have h2 := h2.below (n1.below.mono (by omega))
        have h2 := h2.below (n2.below.mono (by omega))
        have h2 := h2.below (hw3.mono (by omega))
        have h2 := h2.below (hw5.mono (by omega))
        have h2 := h2.below (hw7.mono (by omega))
        refine lsw (want_t (dj := 34) (by rfl) (by kernel_rfl) rfl) (y_lenS (el := 5) h2 (by kernel_rfl) rfl rfl) rfl (by decide) ?_
        by_cases c9 : 1000 < (ys.length : Int)
        · refine lsw (want_t (dj := 34) (by rfl) (by kernel_rfl) rfl) (yb (decide_eq_true c9) (yi_gtr rfl rfl rfl)) rfl (by decide) ?_
          refine lsw (want_none (by rfl)) (y_pick false rfl rfl rfl) rfl (by decide) ?_
          refine lsw (want_none (by rfl)) (y_move rfl rfl) rfl (by decide) ?_
          refine lsk (want_f (dj := 39) (by rfl) (by kernel_rfl) rfl) rfl (by decide) ?_
          refine lsk (want_f (dj := 39) (by rfl) (by kernel_rfl) rfl) rfl (by decide) ?_
          refine lsk (want_f (dj := 39) (by rfl) (by kernel_rfl) rfl) rfl (by decide) ?_
          refine lsw (want_none (by rfl)) (y_pick true rfl rfl rfl) rfl (by decide) ?_
          refine lsw (want_none (by rfl)) (y_move rfl rfl) rfl (by decide) ?_
          refine lsk (want_f (dj := 44) (by rfl) (by kernel_rfl) rfl) rfl (by decide) ?_
          refine lsk (want_f (dj := 44) (by rfl) (by kernel_rfl) rfl) rfl (by decide) ?_
          refine lsk (want_f (dj := 44) (by rfl) (by kernel_rfl) rfl) rfl (by decide) ?_
          refine lsw (want_none (by rfl)) (y_pick true rfl rfl rfl) rfl (by decide) ?_
          refine lg_nil ?_
          refine nx (E' := [(2, _), (3, _), (4, _), (5, _), (6, _), (7, _), (12, _), (13, _), (48, _)]) (fk rfl (fk rfl (fk rfl (fk rfl (fk rfl (fk rfl (fk rfl (fk rfl (fk rfl fn))))))))) ?_
          refine cg_ct rfl ?_
          refine cg_seq ?_
          refine cg_region ?_
          refine lsw (want_none (by rfl)) (y_move rfl rfl) rfl (by decide) ?_
          refine lsw (want_none (by rfl)) (y_assign rfl rfl) rfl (by decide) ?_
          refine lg_nil ?_
          refine nx (E' := [(2, _), (3, _), (4, _), (5, _), (6, _), (7, _), (13, _), (12, _)]) (fk rfl (fk rfl (fk rfl (fk rfl (fk rfl (fk rfl (fk rfl (fk rfl fn)))))))) ?_
          refine cg_ret ?_
          refine eg_seq_ret ?_
          have u := u.trans (n1.below.mono u.size)
          have u := u.trans (n2.below.mono u.size)
          have u := u.trans (hw3.mono u.size)
          have u := u.trans (hw5.mono u.size)
          have u := u.trans (hw7.mono u.size)
          exact eg_ret_tmp rfl rfl ⟨_, rfl, rfl, u⟩
        · refine lsw (want_t (dj := 34) (by rfl) (by kernel_rfl) rfl) (yb (decide_eq_false c9) (yi_gtr rfl rfl rfl)) rfl (by decide) ?_
          refine lsw (want_none (by rfl)) (y_pick false rfl rfl rfl) rfl (by decide) ?_
          refine lsw (want_none (by rfl)) (y_move rfl rfl) rfl (by decide) ?_
          have r1 := RowAt.below hw5 r1.lt r1
          have r1 := RowAt.below hw7 r1.lt r1
          refine lsw (want_t (dj := 39) (by rfl) (by kernel_rfl) rfl) (y_loadA r1 (by kernel_rfl) (by kernel_rfl) rfl rfl) rfl (by decide) ?_
          have hl := hl.below (hw5.mono (by omega))
          have hl := hl.below (hw7.mono (by omega))
          refine lg_callw (want_t (dj := 39) (by rfl) (by kernel_rfl) rfl) (checkN_any (hl.more (B' := w7.heap.size) (by omega)) (Nat.le_refl _)) (by kernel_rfl) rfl rfl rfl (by decide) ?_
          rintro _ w10 ⟨rfl, hw10⟩
          have zw10 := hw10.size
          by_cases c11 : (ndCheck L) = 0
          · refine lsw (want_t (dj := 39) (by rfl) (by kernel_rfl) rfl) (yb (nd_f c11) (yi_neq rfl rfl rfl)) rfl (by decide) ?_
            refine lsw (want_none (by rfl)) (y_pick false rfl rfl rfl) rfl (by decide) ?_
            refine lsw (want_none (by rfl)) (y_move rfl rfl) rfl (by decide) ?_
            have r2 := RowAt.below hw7 r2.lt r2
            have r2 := RowAt.below hw10 r2.lt r2
            refine lsw (want_t (dj := 44) (by rfl) (by kernel_rfl) rfl) (y_loadA r2 (by kernel_rfl) (by kernel_rfl) rfl rfl) rfl (by decide) ?_
            have hm := hm.below (hw7.mono (by omega))
            have hm := hm.below (hw10.mono (by omega))
            refine lg_callw (want_t (dj := 44) (by rfl) (by kernel_rfl) rfl) (checkN_any (hm.more (B' := w10.heap.size) (by omega)) (Nat.le_refl _)) (by kernel_rfl) rfl rfl rfl (by decide) ?_
            rintro _ w12 ⟨rfl, hw12⟩
            have zw12 := hw12.size
            by_cases c13 : (ndCheck M) = 0
            · have mi := mask_lt i
              have mj := mask_lt j
              refine lsw (want_t (dj := 44) (by rfl) (by kernel_rfl) rfl) (yb (nd_f c13) (yi_neq rfl rfl rfl)) rfl (by decide) ?_
              refine lsw (want_none (by rfl)) (y_pick false rfl rfl rfl) rfl (by decide) ?_
              refine lg_nil ?_
              refine nx (E' := [(2, _), (3, _), (4, _), (5, _), (6, _), (7, _), (12, _), (13, _), (48, _)]) (fk rfl (fk rfl (fk rfl (fk rfl (fk rfl (fk rfl (fk rfl (fk rfl (fk rfl fn))))))))) ?_
              refine cg_cf rfl ?_
              refine cg_skip ?_
              refine nx (E' := [(2, _), (3, _), (4, _), (5, _), (6, _), (7, _), (12, _), (13, _)]) (fk rfl (fk rfl (fk rfl (fk rfl (fk rfl (fk rfl (fk rfl (fk rfl fn)))))))) ?_
              refine cg_seq ?_
              refine cg_region ?_
              refine lsw (want_none (by rfl)) (y_move rfl rfl) rfl (by decide) ?_
              refine lsw (want_none (by rfl)) (y_maskW 65535 (by decide) rfl rfl rfl) rfl (by decide) ?_
              refine lsw (want_none (by rfl)) (y_assign rfl rfl) rfl (by decide) ?_
              refine lg_nil ?_
              refine nx (E' := [(3, _), (4, _), (5, _), (6, _), (7, _), (12, _), (13, _), (14, _)]) (fk rfl (fk rfl (fk rfl (fk rfl (fk rfl (fk rfl (fk rfl (fk rfl fn)))))))) ?_
              refine cg_seq ?_
              refine cg_region ?_
              refine lsw (want_none (by rfl)) (y_move rfl rfl) rfl (by decide) ?_
              refine lsw (want_none (by rfl)) (y_maskW 65535 (by decide) rfl rfl rfl) rfl (by decide) ?_
              refine lsw (want_none (by rfl)) (y_assign rfl rfl) rfl (by decide) ?_
              refine lg_nil ?_
              refine nx (E' := [(4, _), (5, _), (6, _), (7, _), (12, _), (13, _), (14, _), (15, _)]) (fk rfl (fk rfl (fk rfl (fk rfl (fk rfl (fk rfl (fk rfl (fk rfl fn)))))))) ?_
              refine cg_cut (fun v E' => ∃ (b1 : Nat) (b2 : Nat), E' = [(4, s.v), (5, t.v), (6, pv b1 0), (7, pv b2 0), (13, .bool true), (14, nv ((maskK i 65535 : Nat) : Int)), (15, nv ((maskK j 65535 : Nat) : Int)), (16, .bool (decide ((ofLeafO (maskK i 65535 : Int) L) = (ofLeafO (maskK j 65535 : Int) M))))] ∧ RowAt v b1 29 (l.cs L) ∧ RowAt v b2 29 (m.cs M) ∧ IsNd v W.heap.size l L ∧ IsNd v W.heap.size m M ∧ Sl v W.heap.size s xs ∧ Sl v W.heap.size t ys ∧ Below W.heap.size W v) ?_ ?_
              · refine cg_held (by kernel_rfl) fun W14 eW14 => ?_
                have dW14 := below_drew _ _ eW14
                have zW14 := size_drew _ _ eW14
                clear eW14
                refine hg_take 0 (by rfl) (want_none (by rfl)) (by rfl) rfl (by decide) (by kernel_rfl) (by kernel_rfl) (by kernel_rfl) (fun _ _ _ h => h) (Below.refl _ _) (fun q hq => y_move rfl rfl) ?_
                have r1 := RowAt.below hw10 r1.lt r1
                have r1 := RowAt.below hw12 r1.lt r1
                have r1 := RowAt.below dW14 r1.lt r1
                refine hg_take 1 (by rfl) (want_none (by rfl)) (by rfl) rfl (by decide) (by kernel_rfl) (by kernel_rfl) (by kernel_rfl) (fun _ _ _ h => h) (Below.refl _ _) (fun q hq => y_loadA (RowAt.below hq r1.lt r1) (by kernel_rfl) (by kernel_rfl) rfl rfl) ?_
                refine hg_take 4 (by rfl) (want_none (by rfl)) (by rfl) rfl (by decide) (by kernel_rfl) (by kernel_rfl) (by kernel_rfl) (fun _ _ _ h => h) (Below.refl _ _) (fun q hq => y_move rfl rfl) ?_
                have r2 := RowAt.below hw12 r2.lt r2
                have r2 := RowAt.below dW14 r2.lt r2
                refine hg_take 5 (by rfl) (want_none (by rfl)) (by rfl) rfl (by decide) (by kernel_rfl) (by kernel_rfl) (by kernel_rfl) (fun _ _ _ h => h) (Below.refl _ _) (fun q hq => y_loadA (RowAt.below hq r2.lt r2) (by kernel_rfl) (by kernel_rfl) rfl rfl) ?_
                have hl := hl.below (hw10.mono (by omega))
                have hl := hl.below (hw12.mono (by omega))
                have hl := hl.below (dW14.mono (by omega))
                refine hg_one 2 (by rfl) (by kernel_rfl) (want_none (by rfl)) ?_
                refine lg_callw (want_none (by rfl)) (ofLeafN_any (maskK i 65535 : Int) (hl.more (B' := W14.heap.size) (by omega)) (Nat.le_refl _)) (by kernel_rfl) rfl rfl rfl (by decide) ?_
                rintro _ w15 ⟨r15, rfl, m15, hw15⟩
                have zw15 := hw15.size
                have lp15 := ofLeafO_le (maskK i 65535 : Int) L
                refine hg_next hw15 ?_
                refine hg_up hw15 ?_
                have by16 : Bytes (ofLeafO (maskK i 65535 : Int) L) := m15.bytes
                refine hg_take 3 (by rfl) (want_none (by rfl)) (by rfl) rfl (by decide) (by kernel_rfl) (by kernel_rfl) (by kernel_rfl) (fun _ _ _ h => h) (Below.refl _ _) (fun q hq => y_strS (m15.below (hq.mono (by omega))) rfl rfl) ?_
                have hm := hm.below (hw12.mono (by omega))
                have hm := hm.below (dW14.mono (by omega))
                have hm := hm.below (hw15.mono (by omega))
                refine hg_one 6 (by rfl) (by kernel_rfl) (want_none (by rfl)) ?_
                refine lg_callw (want_none (by rfl)) (ofLeafN_any (maskK j 65535 : Int) (hm.more (B' := w15.heap.size) (by omega)) (Nat.le_refl _)) (by kernel_rfl) rfl rfl rfl (by decide) ?_
                rintro _ w17 ⟨r17, rfl, m17, hw17⟩
                have zw17 := hw17.size
                have lp17 := ofLeafO_le (maskK j 65535 : Int) M
                refine hg_next hw17 ?_
                refine hg_up hw17 ?_
                have by18 : Bytes (ofLeafO (maskK j 65535 : Int) M) := m17.bytes
                refine hg_take 7 (by rfl) (want_none (by rfl)) (by rfl) rfl (by decide) (by kernel_rfl) (by kernel_rfl) (by kernel_rfl) (fun _ _ _ h => h) (Below.refl _ _) (fun q hq => y_strS (m17.below (hq.mono (by omega))) rfl rfl) ?_
                refine hg_take 8 (by rfl) (want_none (by rfl)) (by rfl) rfl (by decide) (by kernel_rfl) (by kernel_rfl) (by kernel_rfl) (fun _ _ _ h => h) (Below.refl _ _) (fun q hq => y_seqS (xs := (ofLeafO (maskK i 65535 : Int) L)) (ys := (ofLeafO (maskK j 65535 : Int) M)) by16 by18 rfl rfl rfl) ?_
                refine hg_take 9 (by rfl) (want_none (by rfl)) (by rfl) rfl (by decide) (by kernel_rfl) (by kernel_rfl) (by kernel_rfl) (fun _ _ _ h => h) (Below.refl _ _) (fun q hq => y_assign rfl rfl) ?_
                refine hg_done (by kernel_rfl) ?_
                have r1 := RowAt.below hw15 r1.lt r1
                have r1 := RowAt.below hw17 r1.lt r1
                have r2 := RowAt.below hw15 r2.lt r2
                have r2 := RowAt.below hw17 r2.lt r2
                have hl := hl.below (hw15.mono (by omega))
                have hl := hl.below (hw17.mono (by omega))
                have hm := hm.below (hw17.mono (by omega))
                have h := h.below (hw10.mono (by omega))
                have h := h.below (hw12.mono (by omega))
                have h := h.below (dW14.mono (by omega))
                have h := h.below (hw15.mono (by omega))
                have h := h.below (hw17.mono (by omega))
                have h2 := h2.below (hw10.mono (by omega))
                have h2 := h2.below (hw12.mono (by omega))
                have h2 := h2.below (dW14.mono (by omega))
                have h2 := h2.below (hw15.mono (by omega))
                have h2 := h2.below (hw17.mono (by omega))
                have u := u.trans (n1.below.mono u.size)
                have u := u.trans (n2.below.mono u.size)
                have u := u.trans (hw3.mono u.size)
                have u := u.trans (hw5.mono u.size)
                have u := u.trans (hw7.mono u.size)
                have u := u.trans (hw10.mono u.size)
                have u := u.trans (hw12.mono u.size)
                have u := u.trans (dW14.mono u.size)
                have u := u.trans (hw15.mono u.size)
                have u := u.trans (hw17.mono u.size)
                exact fun a ha => ⟨_, ⟨_, _, rfl, r1, r2, hl, hm, h, h2, u⟩, ha.keep (fk rfl (fk rfl (fk rfl (fk rfl (fk rfl (fk rfl (fk rfl (fk rfl fn))))))))⟩
              · rintro vc19 _ ⟨b1, b2, rfl, r1, r2, hl, hm, h, h2, u⟩
                have zv := u.size
                have l_r1 := r1.lt
                have l_r2 := r2.lt
                refine cg_cut (fun v E' => ∃ (b1 : Nat) (b2 : Nat), E' = [(4, s.v), (5, t.v), (6, pv b1 0), (7, pv b2 0), (13, .bool true), (14, nv ((maskK i 65535 : Nat) : Int)), (15, nv ((maskK j 65535 : Nat) : Int)), (16, .bool (decide ((ofLeafO (maskK i 65535 : Int) L) = (ofLeafO (maskK j 65535 : Int) M)))), (17, .bool (decide ((ofInnerO L xs ys) = (ofInnerO M ys xs))))] ∧ RowAt v b1 29 (l.cs L) ∧ RowAt v b2 29 (m.cs M) ∧ IsNd v W.heap.size l L ∧ IsNd v W.heap.size m M ∧ Sl v W.heap.size s xs ∧ Sl v W.heap.size t ys ∧ Below W.heap.size W v) ?_ ?_
                · refine cg_held (by kernel_rfl) fun W20 eW20 => ?_
                  have dW20 := below_drew _ _ eW20
                  have zW20 := size_drew _ _ eW20
                  clear eW20
                  have r1 := RowAt.below dW20 r1.lt r1
                  refine hg_take 0 (by rfl) (want_none (by rfl)) (by rfl) rfl (by decide) (by kernel_rfl) (by kernel_rfl) (by kernel_rfl) (fun _ _ _ h => h) (Below.refl _ _) (fun q hq => y_loadA (RowAt.below hq r1.lt r1) (by kernel_rfl) (by kernel_rfl) rfl rfl) ?_
                  refine hg_take 1 (by rfl) (want_none (by rfl)) (by rfl) rfl (by decide) (by kernel_rfl) (by kernel_rfl) (by kernel_rfl) (fun _ _ _ h => h) (Below.refl _ _) (fun q hq => y_move rfl rfl) ?_
                  refine hg_take 2 (by rfl) (want_none (by rfl)) (by rfl) rfl (by decide) (by kernel_rfl) (by kernel_rfl) (by kernel_rfl) (fun _ _ _ h => h) (Below.refl _ _) (fun q hq => y_move rfl rfl) ?_
                  have r2 := RowAt.below dW20 r2.lt r2
                  refine hg_take 5 (by rfl) (want_none (by rfl)) (by rfl) rfl (by decide) (by kernel_rfl) (by kernel_rfl) (by kernel_rfl) (fun _ _ _ h => h) (Below.refl _ _) (fun q hq => y_loadA (RowAt.below hq r2.lt r2) (by kernel_rfl) (by kernel_rfl) rfl rfl) ?_
                  refine hg_take 6 (by rfl) (want_none (by rfl)) (by rfl) rfl (by decide) (by kernel_rfl) (by kernel_rfl) (by kernel_rfl) (fun _ _ _ h => h) (Below.refl _ _) (fun q hq => y_move rfl rfl) ?_
                  refine hg_take 7 (by rfl) (want_none (by rfl)) (by rfl) rfl (by decide) (by kernel_rfl) (by kernel_rfl) (by kernel_rfl) (fun _ _ _ h => h) (Below.refl _ _) (fun q hq => y_move rfl rfl) ?_
                  have hl := hl.below (dW20.mono (by omega))
                  have h := h.below (dW20.mono (by omega))
                  have h2 := h2.below (dW20.mono (by omega))
                  refine hg_one 3 (by rfl) (by kernel_rfl) (want_none (by rfl)) ?_
                  refine lg_callw (want_none (by rfl)) (ofInnerN_any (hl.more (B' := W20.heap.size) (by omega)) (h.more (B' := W20.heap.size) (by omega)) (h2.more (B' := W20.heap.size) (by omega)) (Nat.le_refl _) (by first | omega | (simp only [List.length_append, List.length_cons, List.length_nil, numOct_length, flagOct_length]; omega)) (by first | omega | (simp only [List.length_append, List.length_cons, List.length_nil, numOct_length, flagOct_length]; omega))) (by kernel_rfl) rfl rfl rfl (by decide) ?_
                  rintro _ w21 ⟨r21, rfl, m21, hw21⟩
                  have zw21 := hw21.size
                  have lp21 := ofInnerO_le L xs ys
                  refine hg_next hw21 ?_
                  refine hg_up hw21 ?_
                  have by22 : Bytes (ofInnerO L xs ys) := m21.bytes
                  refine hg_take 4 (by rfl) (want_none (by rfl)) (by rfl) rfl (by decide) (by kernel_rfl) (by kernel_rfl) (by kernel_rfl) (fun _ _ _ h => h) (Below.refl _ _) (fun q hq => y_strS (m21.below (hq.mono (by omega))) rfl rfl) ?_
                  have hm := hm.below (dW20.mono (by omega))
                  have hm := hm.below (hw21.mono (by omega))
                  have h2 := h2.below (hw21.mono (by omega))
                  have h := h.below (hw21.mono (by omega))
                  refine hg_one 8 (by rfl) (by kernel_rfl) (want_none (by rfl)) ?_
                  refine lg_callw (want_none (by rfl)) (ofInnerN_any (hm.more (B' := w21.heap.size) (by omega)) (h2.more (B' := w21.heap.size) (by omega)) (h.more (B' := w21.heap.size) (by omega)) (Nat.le_refl _) (by first | omega | (simp only [List.length_append, List.length_cons, List.length_nil, numOct_length, flagOct_length]; omega)) (by first | omega | (simp only [List.length_append, List.length_cons, List.length_nil, numOct_length, flagOct_length]; omega))) (by kernel_rfl) rfl rfl rfl (by decide) ?_
                  rintro _ w23 ⟨r23, rfl, m23, hw23⟩
                  have zw23 := hw23.size
                  have lp23 := ofInnerO_le M ys xs
                  refine hg_next hw23 ?_
                  refine hg_up hw23 ?_
                  have by24 : Bytes (ofInnerO M ys xs) := m23.bytes
                  refine hg_take 9 (by rfl) (want_none (by rfl)) (by rfl) rfl (by decide) (by kernel_rfl) (by kernel_rfl) (by kernel_rfl) (fun _ _ _ h => h) (Below.refl _ _) (fun q hq => y_strS (m23.below (hq.mono (by omega))) rfl rfl) ?_
                  refine hg_take 10 (by rfl) (want_none (by rfl)) (by rfl) rfl (by decide) (by kernel_rfl) (by kernel_rfl) (by kernel_rfl) (fun _ _ _ h => h) (Below.refl _ _) (fun q hq => y_seqS (xs := (ofInnerO L xs ys)) (ys := (ofInnerO M ys xs)) by22 by24 rfl rfl rfl) ?_
                  refine hg_take 11 (by rfl) (want_none (by rfl)) (by rfl) rfl (by decide) (by kernel_rfl) (by kernel_rfl) (by kernel_rfl) (fun _ _ _ h => h) (Below.refl _ _) (fun q hq => y_assign rfl rfl) ?_
                  refine hg_done (by kernel_rfl) ?_
                  have r1 := RowAt.below hw21 r1.lt r1
                  have r1 := RowAt.below hw23 r1.lt r1
                  have r2 := RowAt.below hw21 r2.lt r2
                  have r2 := RowAt.below hw23 r2.lt r2
                  have hl := hl.below (hw21.mono (by omega))
                  have hl := hl.below (hw23.mono (by omega))
                  have hm := hm.below (hw23.mono (by omega))
                  have h := h.below (hw23.mono (by omega))
                  have h2 := h2.below (hw23.mono (by omega))
                  have u := u.trans (dW20.mono u.size)
                  have u := u.trans (hw21.mono u.size)
                  have u := u.trans (hw23.mono u.size)
                  exact fun a ha => ⟨_, ⟨_, _, rfl, r1, r2, hl, hm, h, h2, u⟩, ha.keep (fk rfl (fk rfl (fk rfl (fk rfl (fk rfl (fk rfl (fk rfl (fk rfl (fk rfl fn)))))))))⟩
                · rintro vc25 _ ⟨b1, b2, rfl, r1, r2, hl, hm, h, h2, u⟩
                  have zv := u.size
                  have l_r1 := r1.lt
                  have l_r2 := r2.lt
                  refine cg_cut (fun v E' => ∃ (b1 : Nat) (b2 : Nat) (b18 : Bool), E' = [(4, s.v), (5, t.v), (6, pv b1 0), (7, pv b2 0), (13, .bool true), (14, nv ((maskK i 65535 : Nat) : Int)), (15, nv ((maskK j 65535 : Nat) : Int)), (16, .bool (decide ((ofLeafO (maskK i 65535 : Int) L) = (ofLeafO (maskK j 65535 : Int) M)))), (17, .bool (decide ((ofInnerO L xs ys) = (ofInnerO M ys xs)))), (18, .bool b18)] ∧ RowAt v b1 29 (l.cs L) ∧ RowAt v b2 29 (m.cs M) ∧ IsNd v W.heap.size l L ∧ IsNd v W.heap.size m M ∧ Sl v W.heap.size s xs ∧ Sl v W.heap.size t ys ∧ Below W.heap.size W v ∧ b18 = decide ((¬ L.kind = 1 ∧ ¬ M.kind = 1) ∨ NdSame L M)) ?_ ?_
                  · refine cg_region ?_
                    refine lsw (want_none (by rfl)) (y_fld (off := 0) (by kernel_rfl) rfl rfl) rfl (by decide) ?_
                    refine lsw (want_none (by rfl)) (y_cellv (v := nv L.kind) r1 rfl (by kernel_rfl) rfl rfl) rfl (by decide) ?_
                    by_cases c26 : L.kind = 1
                    · refine lsw (want_none (by rfl)) (yb (nd_f c26) (yi_neq rfl rfl rfl)) rfl (by decide) ?_
                      refine lsw (want_none (by rfl)) (y_move rfl rfl) rfl (by decide) ?_
                      refine lsk (want_f (dj := 77) (by rfl) (by kernel_rfl) rfl) rfl (by decide) ?_
                      refine lsk (want_f (dj := 77) (by rfl) (by kernel_rfl) rfl) rfl (by decide) ?_
                      refine lsk (want_f (dj := 77) (by rfl) (by kernel_rfl) rfl) rfl (by decide) ?_
                      refine lsw (want_none (by rfl)) (y_pick false rfl rfl rfl) rfl (by decide) ?_
                      refine lsw (want_none (by rfl)) (y_move rfl rfl) rfl (by decide) ?_
                      refine lsw (want_t (dj := 82) (by rfl) (by kernel_rfl) rfl) (y_loadA r1 (by kernel_rfl) (by kernel_rfl) rfl rfl) rfl (by decide) ?_
                      refine lsw (want_t (dj := 82) (by rfl) (by kernel_rfl) rfl) (y_loadA r2 (by kernel_rfl) (by kernel_rfl) rfl rfl) rfl (by decide) ?_
                      by_cases c27 : NdSame L M
                      · refine lg_callw (want_t (dj := 82) (by rfl) (by kernel_rfl) rfl) (sameN_any (hl.more (B' := vc25.heap.size) (by omega)) (hm.more (B' := vc25.heap.size) (by omega)) (Nat.le_refl _)) (by kernel_rfl) rfl rfl rfl (by decide) ?_
                        rintro u28 w28 ⟨e28, hw28⟩
                        have zw28 := hw28.size
                        obtain rfl : u28 = .bool true := e28.trans (congrArg Value.bool (decide_eq_true c27))
                        refine lsw (want_none (by rfl)) (y_pick false rfl rfl rfl) rfl (by decide) ?_
                        refine lsw (want_none (by rfl)) (y_assign rfl rfl) rfl (by decide) ?_
                        refine lg_nil ?_
                        have r1 := RowAt.below hw28 r1.lt r1
                        have r2 := RowAt.below hw28 r2.lt r2
                        have hl := hl.below (hw28.mono (by omega))
                        have hm := hm.below (hw28.mono (by omega))
                        have h := h.below (hw28.mono (by omega))
                        have h2 := h2.below (hw28.mono (by omega))
                        have u := u.trans (hw28.mono u.size)
                        exact fun a ha => ⟨_, ⟨_, _, true, rfl, r1, r2, hl, hm, h, h2, u, (decide_eq_true (.inr c27)).symm⟩, ha.keep (fk rfl (fk rfl (fk rfl (fk rfl (fk rfl (fk rfl (fk rfl (fk rfl (fk rfl (fk rfl fn))))))))))⟩
                      · refine lg_callw (want_t (dj := 82) (by rfl) (by kernel_rfl) rfl) (sameN_any (hl.more (B' := vc25.heap.size) (by omega)) (hm.more (B' := vc25.heap.size) (by omega)) (Nat.le_refl _)) (by kernel_rfl) rfl rfl rfl (by decide) ?_
                        rintro u29 w29 ⟨e29, hw29⟩
                        have zw29 := hw29.size
                        obtain rfl : u29 = .bool false := e29.trans (congrArg Value.bool (decide_eq_false c27))
                        refine lsw (want_none (by rfl)) (y_pick false rfl rfl rfl) rfl (by decide) ?_
                        refine lsw (want_none (by rfl)) (y_assign rfl rfl) rfl (by decide) ?_
                        refine lg_nil ?_
                        have r1 := RowAt.below hw29 r1.lt r1
                        have r2 := RowAt.below hw29 r2.lt r2
                        have hl := hl.below (hw29.mono (by omega))
                        have hm := hm.below (hw29.mono (by omega))
                        have h := h.below (hw29.mono (by omega))
                        have h2 := h2.below (hw29.mono (by omega))
                        have u := u.trans (hw29.mono u.size)
                        exact fun a ha => ⟨_, ⟨_, _, false, rfl, r1, r2, hl, hm, h, h2, u, (decide_eq_false (fun q => q.elim (fun z => z.1 c26) c27)).symm⟩, ha.keep (fk rfl (fk rfl (fk rfl (fk rfl (fk rfl (fk rfl (fk rfl (fk rfl (fk rfl (fk rfl fn))))))))))⟩
                    · refine lsw (want_none (by rfl)) (yb (nd_t c26) (yi_neq rfl rfl rfl)) rfl (by decide) ?_
                      refine lsw (want_none (by rfl)) (y_move rfl rfl) rfl (by decide) ?_
                      refine lsw (want_t (dj := 77) (by rfl) (by kernel_rfl) rfl) (y_fld (off := 0) (by kernel_rfl) rfl rfl) rfl (by decide) ?_
                      refine lsw (want_t (dj := 77) (by rfl) (by kernel_rfl) rfl) (y_cellv (v := nv M.kind) r2 rfl (by kernel_rfl) rfl rfl) rfl (by decide) ?_
                      by_cases c30 : M.kind = 1
                      · refine lsw (want_t (dj := 77) (by rfl) (by kernel_rfl) rfl) (yb (nd_f c30) (yi_neq rfl rfl rfl)) rfl (by decide) ?_
                        refine lsw (want_none (by rfl)) (y_pick true rfl rfl rfl) rfl (by decide) ?_
                        refine lsw (want_none (by rfl)) (y_move rfl rfl) rfl (by decide) ?_
                        refine lsw (want_t (dj := 82) (by rfl) (by kernel_rfl) rfl) (y_loadA r1 (by kernel_rfl) (by kernel_rfl) rfl rfl) rfl (by decide) ?_
                        refine lsw (want_t (dj := 82) (by rfl) (by kernel_rfl) rfl) (y_loadA r2 (by kernel_rfl) (by kernel_rfl) rfl rfl) rfl (by decide) ?_
                        by_cases c31 : NdSame L M
                        · refine lg_callw (want_t (dj := 82) (by rfl) (by kernel_rfl) rfl) (sameN_any (hl.more (B' := vc25.heap.size) (by omega)) (hm.more (B' := vc25.heap.size) (by omega)) (Nat.le_refl _)) (by kernel_rfl) rfl rfl rfl (by decide) ?_
                          rintro u32 w32 ⟨e32, hw32⟩
                          have zw32 := hw32.size
                          obtain rfl : u32 = .bool true := e32.trans (congrArg Value.bool (decide_eq_true c31))
                          refine lsw (want_none (by rfl)) (y_pick false rfl rfl rfl) rfl (by decide) ?_
                          refine lsw (want_none (by rfl)) (y_assign rfl rfl) rfl (by decide) ?_
                          refine lg_nil ?_
                          have r1 := RowAt.below hw32 r1.lt r1
                          have r2 := RowAt.below hw32 r2.lt r2
                          have hl := hl.below (hw32.mono (by omega))
                          have hm := hm.below (hw32.mono (by omega))
                          have h := h.below (hw32.mono (by omega))
                          have h2 := h2.below (hw32.mono (by omega))
                          have u := u.trans (hw32.mono u.size)
                          exact fun a ha => ⟨_, ⟨_, _, true, rfl, r1, r2, hl, hm, h, h2, u, (decide_eq_true (.inr c31)).symm⟩, ha.keep (fk rfl (fk rfl (fk rfl (fk rfl (fk rfl (fk rfl (fk rfl (fk rfl (fk rfl (fk rfl fn))))))))))⟩
                        · refine lg_callw (want_t (dj := 82) (by rfl) (by kernel_rfl) rfl) (sameN_any (hl.more (B' := vc25.heap.size) (by omega)) (hm.more (B' := vc25.heap.size) (by omega)) (Nat.le_refl _)) (by kernel_rfl) rfl rfl rfl (by decide) ?_
                          rintro u33 w33 ⟨e33, hw33⟩
                          have zw33 := hw33.size
                          obtain rfl : u33 = .bool false := e33.trans (congrArg Value.bool (decide_eq_false c31))
                          refine lsw (want_none (by rfl)) (y_pick false rfl rfl rfl) rfl (by decide) ?_
                          refine lsw (want_none (by rfl)) (y_assign rfl rfl) rfl (by decide) ?_
                          refine lg_nil ?_
                          have r1 := RowAt.below hw33 r1.lt r1
                          have r2 := RowAt.below hw33 r2.lt r2
                          have hl := hl.below (hw33.mono (by omega))
                          have hm := hm.below (hw33.mono (by omega))
                          have h := h.below (hw33.mono (by omega))
                          have h2 := h2.below (hw33.mono (by omega))
                          have u := u.trans (hw33.mono u.size)
                          exact fun a ha => ⟨_, ⟨_, _, false, rfl, r1, r2, hl, hm, h, h2, u, (decide_eq_false (fun q => q.elim (fun z => z.2 c30) c31)).symm⟩, ha.keep (fk rfl (fk rfl (fk rfl (fk rfl (fk rfl (fk rfl (fk rfl (fk rfl (fk rfl (fk rfl fn))))))))))⟩
                      · refine lsw (want_t (dj := 77) (by rfl) (by kernel_rfl) rfl) (yb (nd_t c30) (yi_neq rfl rfl rfl)) rfl (by decide) ?_
                        refine lsw (want_none (by rfl)) (y_pick true rfl rfl rfl) rfl (by decide) ?_
                        refine lsw (want_none (by rfl)) (y_move rfl rfl) rfl (by decide) ?_
                        refine lsk (want_f (dj := 82) (by rfl) (by kernel_rfl) rfl) rfl (by decide) ?_
                        refine lsk (want_f (dj := 82) (by rfl) (by kernel_rfl) rfl) rfl (by decide) ?_
                        refine lsk (want_f (dj := 82) (by rfl) (by kernel_rfl) rfl) rfl (by decide) ?_
                        refine lsw (want_none (by rfl)) (y_pick true rfl rfl rfl) rfl (by decide) ?_
                        refine lsw (want_none (by rfl)) (y_assign rfl rfl) rfl (by decide) ?_
                        refine lg_nil ?_
                        exact fun a ha => ⟨_, ⟨_, _, true, rfl, r1, r2, hl, hm, h, h2, u, (decide_eq_true (.inl ⟨c26, c30⟩)).symm⟩, ha.keep (fk rfl (fk rfl (fk rfl (fk rfl (fk rfl (fk rfl (fk rfl (fk rfl (fk rfl (fk rfl fn))))))))))⟩
                  · rintro vc34 _ ⟨b1, b2, b18, rfl, r1, r2, hl, hm, h, h2, u, hb18⟩
                    have zv := u.size
                    have l_r1 := r1.lt
                    have l_r2 := r2.lt
                    refine cg_cut (fun v E' => ∃ (b1 : Nat) (b2 : Nat) (b18 : Bool) (b19 : Bool), E' = [(4, s.v), (5, t.v), (6, pv b1 0), (7, pv b2 0), (13, .bool true), (14, nv ((maskK i 65535 : Nat) : Int)), (15, nv ((maskK j 65535 : Nat) : Int)), (16, .bool (decide ((ofLeafO (maskK i 65535 : Int) L) = (ofLeafO (maskK j 65535 : Int) M)))), (17, .bool (decide ((ofInnerO L xs ys) = (ofInnerO M ys xs)))), (18, .bool b18), (19, .bool b19)] ∧ RowAt v b1 29 (l.cs L) ∧ RowAt v b2 29 (m.cs M) ∧ IsNd v W.heap.size l L ∧ IsNd v W.heap.size m M ∧ Sl v W.heap.size s xs ∧ Sl v W.heap.size t ys ∧ Below W.heap.size W v ∧ b18 = decide ((¬ L.kind = 1 ∧ ¬ M.kind = 1) ∨ NdSame L M) ∧ b19 = decide ((¬ L.kind = 2 ∧ ¬ M.kind = 2) ∨ NdSame L M)) ?_ ?_
                    · refine cg_region ?_
                      refine lsw (want_none (by rfl)) (y_fld (off := 0) (by kernel_rfl) rfl rfl) rfl (by decide) ?_
                      refine lsw (want_none (by rfl)) (y_cellv (v := nv L.kind) r1 rfl (by kernel_rfl) rfl rfl) rfl (by decide) ?_
                      by_cases c35 : L.kind = 2
                      · refine lsw (want_none (by rfl)) (yb (nd_f c35) (yi_neq rfl rfl rfl)) rfl (by decide) ?_
                        refine lsw (want_none (by rfl)) (y_move rfl rfl) rfl (by decide) ?_
                        refine lsk (want_f (dj := 90) (by rfl) (by kernel_rfl) rfl) rfl (by decide) ?_
                        refine lsk (want_f (dj := 90) (by rfl) (by kernel_rfl) rfl) rfl (by decide) ?_
                        refine lsk (want_f (dj := 90) (by rfl) (by kernel_rfl) rfl) rfl (by decide) ?_
                        refine lsw (want_none (by rfl)) (y_pick false rfl rfl rfl) rfl (by decide) ?_
                        refine lsw (want_none (by rfl)) (y_move rfl rfl) rfl (by decide) ?_
                        refine lsw (want_t (dj := 95) (by rfl) (by kernel_rfl) rfl) (y_loadA r1 (by kernel_rfl) (by kernel_rfl) rfl rfl) rfl (by decide) ?_
                        refine lsw (want_t (dj := 95) (by rfl) (by kernel_rfl) rfl) (y_loadA r2 (by kernel_rfl) (by kernel_rfl) rfl rfl) rfl (by decide) ?_
                        by_cases c36 : NdSame L M
                        · refine lg_callw (want_t (dj := 95) (by rfl) (by kernel_rfl) rfl) (sameN_any (hl.more (B' := vc34.heap.size) (by omega)) (hm.more (B' := vc34.heap.size) (by omega)) (Nat.le_refl _)) (by kernel_rfl) rfl rfl rfl (by decide) ?_
                          rintro u37 w37 ⟨e37, hw37⟩
                          have zw37 := hw37.size
                          obtain rfl : u37 = .bool true := e37.trans (congrArg Value.bool (decide_eq_true c36))
                          refine lsw (want_none (by rfl)) (y_pick false rfl rfl rfl) rfl (by decide) ?_
                          refine lsw (want_none (by rfl)) (y_assign rfl rfl) rfl (by decide) ?_
                          refine lg_nil ?_
                          have r1 := RowAt.below hw37 r1.lt r1
                          have r2 := RowAt.below hw37 r2.lt r2
                          have hl := hl.below (hw37.mono (by omega))
                          have hm := hm.below (hw37.mono (by omega))
                          have h := h.below (hw37.mono (by omega))
                          have h2 := h2.below (hw37.mono (by omega))
                          have u := u.trans (hw37.mono u.size)
                          exact fun a ha => ⟨_, ⟨_, _, _, true, rfl, r1, r2, hl, hm, h, h2, u, hb18, (decide_eq_true (.inr c36)).symm⟩, ha.keep (fk rfl (fk rfl (fk rfl (fk rfl (fk rfl (fk rfl (fk rfl (fk rfl (fk rfl (fk rfl (fk rfl fn)))))))))))⟩
                        · refine lg_callw (want_t (dj := 95) (by rfl) (by kernel_rfl) rfl) (sameN_any (hl.more (B' := vc34.heap.size) (by omega)) (hm.more (B' := vc34.heap.size) (by omega)) (Nat.le_refl _)) (by kernel_rfl) rfl rfl rfl (by decide) ?_
                          rintro u38 w38 ⟨e38, hw38⟩
                          have zw38 := hw38.size
                          obtain rfl : u38 = .bool false := e38.trans (congrArg Value.bool (decide_eq_false c36))
                          refine lsw (want_none (by rfl)) (y_pick false rfl rfl rfl) rfl (by decide) ?_
                          refine lsw (want_none (by rfl)) (y_assign rfl rfl) rfl (by decide) ?_
                          refine lg_nil ?_
                          have r1 := RowAt.below hw38 r1.lt r1
                          have r2 := RowAt.below hw38 r2.lt r2
                          have hl := hl.below (hw38.mono (by omega))
                          have hm := hm.below (hw38.mono (by omega))
                          have h := h.below (hw38.mono (by omega))
                          have h2 := h2.below (hw38.mono (by omega))
                          have u := u.trans (hw38.mono u.size)
                          exact fun a ha => ⟨_, ⟨_, _, _, false, rfl, r1, r2, hl, hm, h, h2, u, hb18, (decide_eq_false (fun q => q.elim (fun z => z.1 c35) c36)).symm⟩, ha.keep (fk rfl (fk rfl (fk rfl (fk rfl (fk rfl (fk rfl (fk rfl (fk rfl (fk rfl (fk rfl (fk rfl fn)))))))))))⟩
                      · refine lsw (want_none (by rfl)) (yb (nd_t c35) (yi_neq rfl rfl rfl)) rfl (by decide) ?_
                        refine lsw (want_none (by rfl)) (y_move rfl rfl) rfl (by decide) ?_
                        refine lsw (want_t (dj := 90) (by rfl) (by kernel_rfl) rfl) (y_fld (off := 0) (by kernel_rfl) rfl rfl) rfl (by decide) ?_
                        refine lsw (want_t (dj := 90) (by rfl) (by kernel_rfl) rfl) (y_cellv (v := nv M.kind) r2 rfl (by kernel_rfl) rfl rfl) rfl (by decide) ?_
                        by_cases c39 : M.kind = 2
                        · refine lsw (want_t (dj := 90) (by rfl) (by kernel_rfl) rfl) (yb (nd_f c39) (yi_neq rfl rfl rfl)) rfl (by decide) ?_
                          refine lsw (want_none (by rfl)) (y_pick true rfl rfl rfl) rfl (by decide) ?_
                          refine lsw (want_none (by rfl)) (y_move rfl rfl) rfl (by decide) ?_
                          refine lsw (want_t (dj := 95) (by rfl) (by kernel_rfl) rfl) (y_loadA r1 (by kernel_rfl) (by kernel_rfl) rfl rfl) rfl (by decide) ?_
                          refine lsw (want_t (dj := 95) (by rfl) (by kernel_rfl) rfl) (y_loadA r2 (by kernel_rfl) (by kernel_rfl) rfl rfl) rfl (by decide) ?_
                          by_cases c40 : NdSame L M
                          · refine lg_callw (want_t (dj := 95) (by rfl) (by kernel_rfl) rfl) (sameN_any (hl.more (B' := vc34.heap.size) (by omega)) (hm.more (B' := vc34.heap.size) (by omega)) (Nat.le_refl _)) (by kernel_rfl) rfl rfl rfl (by decide) ?_
                            rintro u41 w41 ⟨e41, hw41⟩
                            have zw41 := hw41.size
                            obtain rfl : u41 = .bool true := e41.trans (congrArg Value.bool (decide_eq_true c40))
                            refine lsw (want_none (by rfl)) (y_pick false rfl rfl rfl) rfl (by decide) ?_
                            refine lsw (want_none (by rfl)) (y_assign rfl rfl) rfl (by decide) ?_
                            refine lg_nil ?_
                            have r1 := RowAt.below hw41 r1.lt r1
                            have r2 := RowAt.below hw41 r2.lt r2
                            have hl := hl.below (hw41.mono (by omega))
                            have hm := hm.below (hw41.mono (by omega))
                            have h := h.below (hw41.mono (by omega))
                            have h2 := h2.below (hw41.mono (by omega))
                            have u := u.trans (hw41.mono u.size)
                            exact fun a ha => ⟨_, ⟨_, _, _, true, rfl, r1, r2, hl, hm, h, h2, u, hb18, (decide_eq_true (.inr c40)).symm⟩, ha.keep (fk rfl (fk rfl (fk rfl (fk rfl (fk rfl (fk rfl (fk rfl (fk rfl (fk rfl (fk rfl (fk rfl fn)))))))))))⟩
                          · refine lg_callw (want_t (dj := 95) (by rfl) (by kernel_rfl) rfl) (sameN_any (hl.more (B' := vc34.heap.size) (by omega)) (hm.more (B' := vc34.heap.size) (by omega)) (Nat.le_refl _)) (by kernel_rfl) rfl rfl rfl (by decide) ?_
                            rintro u42 w42 ⟨e42, hw42⟩
                            have zw42 := hw42.size
                            obtain rfl : u42 = .bool false := e42.trans (congrArg Value.bool (decide_eq_false c40))
                            refine lsw (want_none (by rfl)) (y_pick false rfl rfl rfl) rfl (by decide) ?_
                            refine lsw (want_none (by rfl)) (y_assign rfl rfl) rfl (by decide) ?_
                            refine lg_nil ?_
                            have r1 := RowAt.below hw42 r1.lt r1
                            have r2 := RowAt.below hw42 r2.lt r2
                            have hl := hl.below (hw42.mono (by omega))
                            have hm := hm.below (hw42.mono (by omega))
                            have h := h.below (hw42.mono (by omega))
                            have h2 := h2.below (hw42.mono (by omega))
                            have u := u.trans (hw42.mono u.size)
                            exact fun a ha => ⟨_, ⟨_, _, _, false, rfl, r1, r2, hl, hm, h, h2, u, hb18, (decide_eq_false (fun q => q.elim (fun z => z.2 c39) c40)).symm⟩, ha.keep (fk rfl (fk rfl (fk rfl (fk rfl (fk rfl (fk rfl (fk rfl (fk rfl (fk rfl (fk rfl (fk rfl fn)))))))))))⟩
                        · refine lsw (want_t (dj := 90) (by rfl) (by kernel_rfl) rfl) (yb (nd_t c39) (yi_neq rfl rfl rfl)) rfl (by decide) ?_
                          refine lsw (want_none (by rfl)) (y_pick true rfl rfl rfl) rfl (by decide) ?_
                          refine lsw (want_none (by rfl)) (y_move rfl rfl) rfl (by decide) ?_
                          refine lsk (want_f (dj := 95) (by rfl) (by kernel_rfl) rfl) rfl (by decide) ?_
                          refine lsk (want_f (dj := 95) (by rfl) (by kernel_rfl) rfl) rfl (by decide) ?_
                          refine lsk (want_f (dj := 95) (by rfl) (by kernel_rfl) rfl) rfl (by decide) ?_
                          refine lsw (want_none (by rfl)) (y_pick true rfl rfl rfl) rfl (by decide) ?_
                          refine lsw (want_none (by rfl)) (y_assign rfl rfl) rfl (by decide) ?_
                          refine lg_nil ?_
                          exact fun a ha => ⟨_, ⟨_, _, _, true, rfl, r1, r2, hl, hm, h, h2, u, hb18, (decide_eq_true (.inl ⟨c35, c39⟩)).symm⟩, ha.keep (fk rfl (fk rfl (fk rfl (fk rfl (fk rfl (fk rfl (fk rfl (fk rfl (fk rfl (fk rfl (fk rfl fn)))))))))))⟩
                    · rintro vc43 _ ⟨b1, b2, b18, b19, rfl, r1, r2, hl, hm, h, h2, u, hb18, hb19⟩
                      have zv := u.size
                      have l_r1 := r1.lt
                      have l_r2 := r2.lt
                      refine cg_seq ?_
                      refine cg_held (by kernel_rfl) fun W44 eW44 => ?_
                      have dW44 := below_drew _ _ eW44
                      have zW44 := size_drew _ _ eW44
                      clear eW44
                      refine hg_take 0 (by rfl) (want_none (by rfl)) (by rfl) rfl (by decide) (by kernel_rfl) (by kernel_rfl) (by kernel_rfl) (fun _ _ _ h => h) (Below.refl _ _) (fun q hq => y_move rfl rfl) ?_
                      refine hg_take 1 (by rfl) (want_none (by rfl)) (by rfl) rfl (by decide) (by kernel_rfl) (by kernel_rfl) (by kernel_rfl) (fun _ _ _ h => h) (Below.refl _ _) (fun q hq => y_move rfl rfl) ?_
                      by_cases c45 : (ofLeafO (maskK i 65535 : Int) L) = (ofLeafO (maskK j 65535 : Int) M)
                      · obtain ⟨lx, ly⟩ := leaf_apart c11 c13 mi mj c45
                        refine hg_take 2 (by rfl) (want_t (dj := 101) (by rfl) (by kernel_rfl) rfl) (by rfl) rfl (by decide) (by kernel_rfl) (by kernel_rfl) (by kernel_rfl) (fun _ _ _ h => h) (Below.refl _ _) (fun q hq => yb (decide_eq_true c45) (y_move rfl rfl)) ?_
                        refine hg_take 3 (by rfl) (want_t (dj := 101) (by rfl) (by kernel_rfl) rfl) (by rfl) rfl (by decide) (by kernel_rfl) (by kernel_rfl) (by kernel_rfl) (fun _ _ _ h => h) (Below.refl _ _) (fun q hq => y_move rfl rfl) ?_
                        refine hg_take 4 (by rfl) (want_t (dj := 101) (by rfl) (by kernel_rfl) rfl) (by rfl) rfl (by decide) (by kernel_rfl) (by kernel_rfl) (by kernel_rfl) (fun _ _ _ h => h) (Below.refl _ _) (fun q hq => y_move rfl rfl) ?_
                        refine hg_take 5 (by rfl) (want_t (dj := 101) (by rfl) (by kernel_rfl) rfl) (by rfl) rfl (by decide) (by kernel_rfl) (by kernel_rfl) (by kernel_rfl) (fun _ _ _ h => h) (Below.refl _ _) (fun q hq => yb (decide_eq_true (show (maskK i 65535 : Int) = (maskK j 65535 : Int) from (congrArg (fun q : Nat => (q : Int)) lx))) (yi_eql rfl rfl rfl)) ?_
                        refine hg_take 6 (by rfl) (want_t (dj := 101) (by rfl) (by kernel_rfl) rfl) (by rfl) rfl (by decide) (by kernel_rfl) (by kernel_rfl) (by kernel_rfl) (fun _ _ _ h => h) (Below.refl _ _) (fun q hq => y_move rfl rfl) ?_
                        cases b18
                        · have q18 := of_decide_eq_false hb18.symm
                          exact absurd (ly.imp id ndSame_iff.2) q18
                        · have q18 := of_decide_eq_true hb18.symm
                          refine hg_take 7 (by rfl) (want_t (dj := 106) (by rfl) (by kernel_rfl) rfl) (by rfl) rfl (by decide) (by kernel_rfl) (by kernel_rfl) (by kernel_rfl) (fun _ _ _ h => h) (Below.refl _ _) (fun q hq => y_move rfl rfl) ?_
                          refine hg_take 8 (by rfl) (want_t (dj := 101) (by rfl) (by kernel_rfl) rfl) (by rfl) rfl (by decide) (by kernel_rfl) (by kernel_rfl) (by kernel_rfl) (fun _ _ _ h => h) (Below.refl _ _) (fun q hq => y_pick true rfl rfl rfl) ?_
                          refine hg_take 9 (by rfl) (want_t (dj := 101) (by rfl) (by kernel_rfl) rfl) (by rfl) rfl (by decide) (by kernel_rfl) (by kernel_rfl) (by kernel_rfl) (fun _ _ _ h => h) (Below.refl _ _) (fun q hq => yb (b := (true == true)) (show (true == true) = true from rfl) (y_beq (a := true) (b := true) hubo rfl rfl rfl)) ?_
                          refine hg_take 10 (by rfl) (want_none (by rfl)) (by rfl) rfl (by decide) (by kernel_rfl) (by kernel_rfl) (by kernel_rfl) (fun _ _ _ h => h) (Below.refl _ _) (fun q hq => y_pick true rfl rfl rfl) ?_
                          refine hg_take 11 (by rfl) (want_none (by rfl)) (by rfl) rfl (by decide) (by kernel_rfl) (by kernel_rfl) (by kernel_rfl) (fun _ _ _ h => h) (Below.refl _ _) (fun q hq => y_move rfl rfl) ?_
                          by_cases c46 : (ofInnerO L xs ys) = (ofInnerO M ys xs)
                          · obtain ⟨ix, iy⟩ := inner_apart c11 c13 (by omega) (by omega) c46
                            refine hg_take 12 (by rfl) (want_t (dj := 111) (by rfl) (by kernel_rfl) rfl) (by rfl) rfl (by decide) (by kernel_rfl) (by kernel_rfl) (by kernel_rfl) (fun _ _ _ h => h) (Below.refl _ _) (fun q hq => yb (decide_eq_true c46) (y_move rfl rfl)) ?_
                            refine hg_take 13 (by rfl) (want_t (dj := 111) (by rfl) (by kernel_rfl) rfl) (by rfl) rfl (by decide) (by kernel_rfl) (by kernel_rfl) (by kernel_rfl) (fun _ _ _ h => h) (Below.refl _ _) (fun q hq => y_move rfl rfl) ?_
                            have h := h.below (dW44.mono (by omega))
                            have by47 : Bytes xs := h.bytes
                            refine hg_take 14 (by rfl) (want_t (dj := 111) (by rfl) (by kernel_rfl) rfl) (by rfl) rfl (by decide) (by kernel_rfl) (by kernel_rfl) (by kernel_rfl) (fun _ _ _ h => h) (Below.refl _ _) (fun q hq => y_strS (h.below (hq.mono (by omega))) rfl rfl) ?_
                            refine hg_take 15 (by rfl) (want_t (dj := 111) (by rfl) (by kernel_rfl) rfl) (by rfl) rfl (by decide) (by kernel_rfl) (by kernel_rfl) (by kernel_rfl) (fun _ _ _ h => h) (Below.refl _ _) (fun q hq => y_move rfl rfl) ?_
                            have h2 := h2.below (dW44.mono (by omega))
                            have by48 : Bytes ys := h2.bytes
                            refine hg_take 16 (by rfl) (want_t (dj := 111) (by rfl) (by kernel_rfl) rfl) (by rfl) rfl (by decide) (by kernel_rfl) (by kernel_rfl) (by kernel_rfl) (fun _ _ _ h => h) (Below.refl _ _) (fun q hq => y_strS (h2.below (hq.mono (by omega))) rfl rfl) ?_
                            refine hg_take 17 (by rfl) (want_t (dj := 111) (by rfl) (by kernel_rfl) rfl) (by rfl) rfl (by decide) (by kernel_rfl) (by kernel_rfl) (by kernel_rfl) (fun _ _ _ h => h) (Below.refl _ _) (fun q hq => yb (decide_eq_true ix) (y_seqS (xs := xs) (ys := ys) by47 by48 rfl rfl rfl)) ?_
                            refine hg_take 18 (by rfl) (want_t (dj := 111) (by rfl) (by kernel_rfl) rfl) (by rfl) rfl (by decide) (by kernel_rfl) (by kernel_rfl) (by kernel_rfl) (fun _ _ _ h => h) (Below.refl _ _) (fun q hq => y_move rfl rfl) ?_
                            cases b19
                            · have q19 := of_decide_eq_false hb19.symm
                              exact absurd (iy.imp id ndSame_iff.2) q19
                            · have q19 := of_decide_eq_true hb19.symm
                              refine hg_take 19 (by rfl) (want_t (dj := 118) (by rfl) (by kernel_rfl) rfl) (by rfl) rfl (by decide) (by kernel_rfl) (by kernel_rfl) (by kernel_rfl) (fun _ _ _ h => h) (Below.refl _ _) (fun q hq => y_move rfl rfl) ?_
                              refine hg_take 20 (by rfl) (want_t (dj := 111) (by rfl) (by kernel_rfl) rfl) (by rfl) rfl (by decide) (by kernel_rfl) (by kernel_rfl) (by kernel_rfl) (fun _ _ _ h => h) (Below.refl _ _) (fun q hq => y_pick true rfl rfl rfl) ?_
                              refine hg_take 21 (by rfl) (want_t (dj := 111) (by rfl) (by kernel_rfl) rfl) (by rfl) rfl (by decide) (by kernel_rfl) (by kernel_rfl) (by kernel_rfl) (fun _ _ _ h => h) (Below.refl _ _) (fun q hq => yb (b := (true == true)) (show (true == true) = true from rfl) (y_beq (a := true) (b := true) hubo rfl rfl rfl)) ?_
                              refine hg_take 22 (by rfl) (want_none (by rfl)) (by rfl) rfl (by decide) (by kernel_rfl) (by kernel_rfl) (by kernel_rfl) (fun _ _ _ h => h) (Below.refl _ _) (fun q hq => y_pick true rfl rfl rfl) ?_
                              refine hg_take 23 (by rfl) (want_none (by rfl)) (by rfl) rfl (by decide) (by kernel_rfl) (by kernel_rfl) (by kernel_rfl) (fun _ _ _ h => h) (Below.refl _ _) (fun q hq => y_move rfl rfl) ?_
                              refine hg_take 24 (by rfl) (want_t (dj := 123) (by rfl) (by kernel_rfl) rfl) (by rfl) rfl (by decide) (by kernel_rfl) (by kernel_rfl) (by kernel_rfl) (fun _ _ _ h => h) (Below.refl _ _) (fun q hq => y_move rfl rfl) ?_
                              have r1 := RowAt.below dW44 r1.lt r1
                              refine hg_take 25 (by rfl) (want_t (dj := 123) (by rfl) (by kernel_rfl) rfl) (by rfl) rfl (by decide) (by kernel_rfl) (by kernel_rfl) (by kernel_rfl) (fun _ _ _ h => h) (Below.refl _ _) (fun q hq => y_loadA (RowAt.below hq r1.lt r1) (by kernel_rfl) (by kernel_rfl) rfl rfl) ?_
                              refine hg_take 28 (by rfl) (want_t (dj := 123) (by rfl) (by kernel_rfl) rfl) (by rfl) rfl (by decide) (by kernel_rfl) (by kernel_rfl) (by kernel_rfl) (fun _ _ _ h => h) (Below.refl _ _) (fun q hq => y_loadA (RowAt.below hq r1.lt r1) (by kernel_rfl) (by kernel_rfl) rfl rfl) ?_
                              refine hg_take 29 (by rfl) (want_t (dj := 123) (by rfl) (by kernel_rfl) rfl) (by rfl) rfl (by decide) (by kernel_rfl) (by kernel_rfl) (by kernel_rfl) (fun _ _ _ h => h) (Below.refl _ _) (fun q hq => y_move rfl rfl) ?_
                              refine hg_take 30 (by rfl) (want_t (dj := 123) (by rfl) (by kernel_rfl) rfl) (by rfl) rfl (by decide) (by kernel_rfl) (by kernel_rfl) (by kernel_rfl) (fun _ _ _ h => h) (Below.refl _ _) (fun q hq => y_move rfl rfl) ?_
                              have hl := hl.below (dW44.mono (by omega))
                              refine hg_one 26 (by rfl) (by kernel_rfl) (want_t (dj := 123) (by rfl) (by kernel_rfl) rfl) ?_
                              refine lg_callw (want_t (dj := 123) (by rfl) (by kernel_rfl) rfl) (ofLeafN_any (maskK i 65535 : Int) (hl.more (B' := W44.heap.size) (by omega)) (Nat.le_refl _)) (by kernel_rfl) rfl rfl rfl (by decide) ?_
                              rintro _ w49 ⟨r49, rfl, m49, hw49⟩
                              have zw49 := hw49.size
                              have lp49 := ofLeafO_le (maskK i 65535 : Int) L
                              refine hg_next hw49 ?_
                              refine hg_up hw49 ?_
                              have by50 : Bytes (ofLeafO (maskK i 65535 : Int) L) := m49.bytes
                              refine hg_take 27 (by rfl) (want_t (dj := 123) (by rfl) (by kernel_rfl) rfl) (by rfl) rfl (by decide) (by kernel_rfl) (by kernel_rfl) (by kernel_rfl) (fun _ _ _ h => h) (Below.refl _ _) (fun q hq => y_strS (m49.below (hq.mono (by omega))) rfl rfl) ?_
                              have hl := hl.below (hw49.mono (by omega))
                              have h := h.below (hw49.mono (by omega))
                              have h2 := h2.below (hw49.mono (by omega))
                              refine hg_one 31 (by rfl) (by kernel_rfl) (want_t (dj := 123) (by rfl) (by kernel_rfl) rfl) ?_
                              refine lg_callw (want_t (dj := 123) (by rfl) (by kernel_rfl) rfl) (ofInnerN_any (hl.more (B' := w49.heap.size) (by omega)) (h.more (B' := w49.heap.size) (by omega)) (h2.more (B' := w49.heap.size) (by omega)) (Nat.le_refl _) (by first | omega | (simp only [List.length_append, List.length_cons, List.length_nil, numOct_length, flagOct_length]; omega)) (by first | omega | (simp only [List.length_append, List.length_cons, List.length_nil, numOct_length, flagOct_length]; omega))) (by kernel_rfl) rfl rfl rfl (by decide) ?_
                              rintro _ w51 ⟨r51, rfl, m51, hw51⟩
                              have zw51 := hw51.size
                              have lp51 := ofInnerO_le L xs ys
                              refine hg_next hw51 ?_
                              refine hg_up hw51 ?_
                              have by52 : Bytes (ofInnerO L xs ys) := m51.bytes
                              refine hg_take 32 (by rfl) (want_t (dj := 123) (by rfl) (by kernel_rfl) rfl) (by rfl) rfl (by decide) (by kernel_rfl) (by kernel_rfl) (by kernel_rfl) (fun _ _ _ h => h) (Below.refl _ _) (fun q hq => y_strS (m51.below (hq.mono (by omega))) rfl rfl) ?_
                              refine hg_take 33 (by rfl) (want_t (dj := 123) (by rfl) (by kernel_rfl) rfl) (by rfl) rfl (by decide) (by kernel_rfl) (by kernel_rfl) (by kernel_rfl) (fun _ _ _ h => h) (Below.refl _ _) (fun q hq => yb (nd_t (show ¬ ((ofLeafO (maskK i 65535 : Int) L) = (ofInnerO L xs ys)) from (leaf_inner _ _ _ _ _))) (y_sneS (xs := (ofLeafO (maskK i 65535 : Int) L)) (ys := (ofInnerO L xs ys)) by50 by52 rfl rfl rfl)) ?_
                              refine hg_take 34 (by rfl) (want_none (by rfl)) (by rfl) rfl (by decide) (by kernel_rfl) (by kernel_rfl) (by kernel_rfl) (fun _ _ _ h => h) (Below.refl _ _) (fun q hq => y_pick true rfl rfl rfl) ?_
                              refine hg_take 35 (by rfl) (want_none (by rfl)) (by rfl) rfl (by decide) (by kernel_rfl) (by kernel_rfl) (by kernel_rfl) (fun _ _ _ h => h) (Below.refl _ _) (fun q hq => y_assign rfl rfl) ?_
                              refine hg_done (by kernel_rfl) ?_
                              refine nx (E' := [(12, _)]) (fk rfl fn) ?_
                              refine cg_ret ?_
                              have u := u.trans (dW44.mono u.size)
                              have u := u.trans (hw49.mono u.size)
                              have u := u.trans (hw51.mono u.size)
                              exact eg_ret_tmp rfl rfl ⟨_, rfl, rfl, u⟩
                          · refine hg_take 12 (by rfl) (want_t (dj := 111) (by rfl) (by kernel_rfl) rfl) (by rfl) rfl (by decide) (by kernel_rfl) (by kernel_rfl) (by kernel_rfl) (fun _ _ _ h => h) (Below.refl _ _) (fun q hq => yb (decide_eq_false c46) (y_move rfl rfl)) ?_
                            refine hg_take 13 (by rfl) (want_t (dj := 111) (by rfl) (by kernel_rfl) rfl) (by rfl) rfl (by decide) (by kernel_rfl) (by kernel_rfl) (by kernel_rfl) (fun _ _ _ h => h) (Below.refl _ _) (fun q hq => y_move rfl rfl) ?_
                            have h := h.below (dW44.mono (by omega))
                            have by53 : Bytes xs := h.bytes
                            refine hg_take 14 (by rfl) (want_t (dj := 111) (by rfl) (by kernel_rfl) rfl) (by rfl) rfl (by decide) (by kernel_rfl) (by kernel_rfl) (by kernel_rfl) (fun _ _ _ h => h) (Below.refl _ _) (fun q hq => y_strS (h.below (hq.mono (by omega))) rfl rfl) ?_
                            refine hg_take 15 (by rfl) (want_t (dj := 111) (by rfl) (by kernel_rfl) rfl) (by rfl) rfl (by decide) (by kernel_rfl) (by kernel_rfl) (by kernel_rfl) (fun _ _ _ h => h) (Below.refl _ _) (fun q hq => y_move rfl rfl) ?_
                            have h2 := h2.below (dW44.mono (by omega))
                            have by54 : Bytes ys := h2.bytes
                            refine hg_take 16 (by rfl) (want_t (dj := 111) (by rfl) (by kernel_rfl) rfl) (by rfl) rfl (by decide) (by kernel_rfl) (by kernel_rfl) (by kernel_rfl) (fun _ _ _ h => h) (Below.refl _ _) (fun q hq => y_strS (h2.below (hq.mono (by omega))) rfl rfl) ?_
                            by_cases c55 : xs = ys
                            · refine hg_take 17 (by rfl) (want_t (dj := 111) (by rfl) (by kernel_rfl) rfl) (by rfl) rfl (by decide) (by kernel_rfl) (by kernel_rfl) (by kernel_rfl) (fun _ _ _ h => h) (Below.refl _ _) (fun q hq => yb (decide_eq_true c55) (y_seqS (xs := xs) (ys := ys) by53 by54 rfl rfl rfl)) ?_
                              refine hg_take 18 (by rfl) (want_t (dj := 111) (by rfl) (by kernel_rfl) rfl) (by rfl) rfl (by decide) (by kernel_rfl) (by kernel_rfl) (by kernel_rfl) (fun _ _ _ h => h) (Below.refl _ _) (fun q hq => y_move rfl rfl) ?_
                              cases b19
                              · have q19 := of_decide_eq_false hb19.symm
                                refine hg_take 19 (by rfl) (want_t (dj := 118) (by rfl) (by kernel_rfl) rfl) (by rfl) rfl (by decide) (by kernel_rfl) (by kernel_rfl) (by kernel_rfl) (fun _ _ _ h => h) (Below.refl _ _) (fun q hq => y_move rfl rfl) ?_
                                refine hg_take 20 (by rfl) (want_t (dj := 111) (by rfl) (by kernel_rfl) rfl) (by rfl) rfl (by decide) (by kernel_rfl) (by kernel_rfl) (by kernel_rfl) (fun _ _ _ h => h) (Below.refl _ _) (fun q hq => y_pick true rfl rfl rfl) ?_
                                refine hg_take 21 (by rfl) (want_t (dj := 111) (by rfl) (by kernel_rfl) rfl) (by rfl) rfl (by decide) (by kernel_rfl) (by kernel_rfl) (by kernel_rfl) (fun _ _ _ h => h) (Below.refl _ _) (fun q hq => yb (b := (false == false)) (show (false == false) = true from rfl) (y_beq (a := false) (b := false) hubo rfl rfl rfl)) ?_
                                refine hg_take 22 (by rfl) (want_none (by rfl)) (by rfl) rfl (by decide) (by kernel_rfl) (by kernel_rfl) (by kernel_rfl) (fun _ _ _ h => h) (Below.refl _ _) (fun q hq => y_pick true rfl rfl rfl) ?_
                                refine hg_take 23 (by rfl) (want_none (by rfl)) (by rfl) rfl (by decide) (by kernel_rfl) (by kernel_rfl) (by kernel_rfl) (fun _ _ _ h => h) (Below.refl _ _) (fun q hq => y_move rfl rfl) ?_
                                refine hg_take 24 (by rfl) (want_t (dj := 123) (by rfl) (by kernel_rfl) rfl) (by rfl) rfl (by decide) (by kernel_rfl) (by kernel_rfl) (by kernel_rfl) (fun _ _ _ h => h) (Below.refl _ _) (fun q hq => y_move rfl rfl) ?_
                                have r1 := RowAt.below dW44 r1.lt r1
                                refine hg_take 25 (by rfl) (want_t (dj := 123) (by rfl) (by kernel_rfl) rfl) (by rfl) rfl (by decide) (by kernel_rfl) (by kernel_rfl) (by kernel_rfl) (fun _ _ _ h => h) (Below.refl _ _) (fun q hq => y_loadA (RowAt.below hq r1.lt r1) (by kernel_rfl) (by kernel_rfl) rfl rfl) ?_
                                refine hg_take 28 (by rfl) (want_t (dj := 123) (by rfl) (by kernel_rfl) rfl) (by rfl) rfl (by decide) (by kernel_rfl) (by kernel_rfl) (by kernel_rfl) (fun _ _ _ h => h) (Below.refl _ _) (fun q hq => y_loadA (RowAt.below hq r1.lt r1) (by kernel_rfl) (by kernel_rfl) rfl rfl) ?_
                                refine hg_take 29 (by rfl) (want_t (dj := 123) (by rfl) (by kernel_rfl) rfl) (by rfl) rfl (by decide) (by kernel_rfl) (by kernel_rfl) (by kernel_rfl) (fun _ _ _ h => h) (Below.refl _ _) (fun q hq => y_move rfl rfl) ?_
                                refine hg_take 30 (by rfl) (want_t (dj := 123) (by rfl) (by kernel_rfl) rfl) (by rfl) rfl (by decide) (by kernel_rfl) (by kernel_rfl) (by kernel_rfl) (fun _ _ _ h => h) (Below.refl _ _) (fun q hq => y_move rfl rfl) ?_
                                have hl := hl.below (dW44.mono (by omega))
                                refine hg_one 26 (by rfl) (by kernel_rfl) (want_t (dj := 123) (by rfl) (by kernel_rfl) rfl) ?_
                                refine lg_callw (want_t (dj := 123) (by rfl) (by kernel_rfl) rfl) (ofLeafN_any (maskK i 65535 : Int) (hl.more (B' := W44.heap.size) (by omega)) (Nat.le_refl _)) (by kernel_rfl) rfl rfl rfl (by decide) ?_
                                rintro _ w56 ⟨r56, rfl, m56, hw56⟩
                                have zw56 := hw56.size
                                have lp56 := ofLeafO_le (maskK i 65535 : Int) L
                                refine hg_next hw56 ?_
                                refine hg_up hw56 ?_
                                have by57 : Bytes (ofLeafO (maskK i 65535 : Int) L) := m56.bytes
                                refine hg_take 27 (by rfl) (want_t (dj := 123) (by rfl) (by kernel_rfl) rfl) (by rfl) rfl (by decide) (by kernel_rfl) (by kernel_rfl) (by kernel_rfl) (fun _ _ _ h => h) (Below.refl _ _) (fun q hq => y_strS (m56.below (hq.mono (by omega))) rfl rfl) ?_
                                have hl := hl.below (hw56.mono (by omega))
                                have h := h.below (hw56.mono (by omega))
                                have h2 := h2.below (hw56.mono (by omega))
                                refine hg_one 31 (by rfl) (by kernel_rfl) (want_t (dj := 123) (by rfl) (by kernel_rfl) rfl) ?_
                                refine lg_callw (want_t (dj := 123) (by rfl) (by kernel_rfl) rfl) (ofInnerN_any (hl.more (B' := w56.heap.size) (by omega)) (h.more (B' := w56.heap.size) (by omega)) (h2.more (B' := w56.heap.size) (by omega)) (Nat.le_refl _) (by first | omega | (simp only [List.length_append, List.length_cons, List.length_nil, numOct_length, flagOct_length]; omega)) (by first | omega | (simp only [List.length_append, List.length_cons, List.length_nil, numOct_length, flagOct_length]; omega))) (by kernel_rfl) rfl rfl rfl (by decide) ?_
                                rintro _ w58 ⟨r58, rfl, m58, hw58⟩
                                have zw58 := hw58.size
                                have lp58 := ofInnerO_le L xs ys
                                refine hg_next hw58 ?_
                                refine hg_up hw58 ?_
                                have by59 : Bytes (ofInnerO L xs ys) := m58.bytes
                                refine hg_take 32 (by rfl) (want_t (dj := 123) (by rfl) (by kernel_rfl) rfl) (by rfl) rfl (by decide) (by kernel_rfl) (by kernel_rfl) (by kernel_rfl) (fun _ _ _ h => h) (Below.refl _ _) (fun q hq => y_strS (m58.below (hq.mono (by omega))) rfl rfl) ?_
                                refine hg_take 33 (by rfl) (want_t (dj := 123) (by rfl) (by kernel_rfl) rfl) (by rfl) rfl (by decide) (by kernel_rfl) (by kernel_rfl) (by kernel_rfl) (fun _ _ _ h => h) (Below.refl _ _) (fun q hq => yb (nd_t (show ¬ ((ofLeafO (maskK i 65535 : Int) L) = (ofInnerO L xs ys)) from (leaf_inner _ _ _ _ _))) (y_sneS (xs := (ofLeafO (maskK i 65535 : Int) L)) (ys := (ofInnerO L xs ys)) by57 by59 rfl rfl rfl)) ?_
                                refine hg_take 34 (by rfl) (want_none (by rfl)) (by rfl) rfl (by decide) (by kernel_rfl) (by kernel_rfl) (by kernel_rfl) (fun _ _ _ h => h) (Below.refl _ _) (fun q hq => y_pick true rfl rfl rfl) ?_
                                refine hg_take 35 (by rfl) (want_none (by rfl)) (by rfl) rfl (by decide) (by kernel_rfl) (by kernel_rfl) (by kernel_rfl) (fun _ _ _ h => h) (Below.refl _ _) (fun q hq => y_assign rfl rfl) ?_
                                refine hg_done (by kernel_rfl) ?_
                                refine nx (E' := [(12, _)]) (fk rfl fn) ?_
                                refine cg_ret ?_
                                have u := u.trans (dW44.mono u.size)
                                have u := u.trans (hw56.mono u.size)
                                have u := u.trans (hw58.mono u.size)
                                exact eg_ret_tmp rfl rfl ⟨_, rfl, rfl, u⟩
                              · have q19 := of_decide_eq_true hb19.symm
                                exact absurd (inner_of c11 c13 q19 c55) c46
                            · refine hg_take 17 (by rfl) (want_t (dj := 111) (by rfl) (by kernel_rfl) rfl) (by rfl) rfl (by decide) (by kernel_rfl) (by kernel_rfl) (by kernel_rfl) (fun _ _ _ h => h) (Below.refl _ _) (fun q hq => yb (decide_eq_false c55) (y_seqS (xs := xs) (ys := ys) by53 by54 rfl rfl rfl)) ?_
                              refine hg_take 18 (by rfl) (want_t (dj := 111) (by rfl) (by kernel_rfl) rfl) (by rfl) rfl (by decide) (by kernel_rfl) (by kernel_rfl) (by kernel_rfl) (fun _ _ _ h => h) (Below.refl _ _) (fun q hq => y_move rfl rfl) ?_
                              refine hg_skip 19 (by rfl) (want_f (dj := 118) (by rfl) (by kernel_rfl) rfl) rfl (by decide) (by kernel_rfl) (by kernel_rfl) (by kernel_rfl) (fun _ _ _ h => h) (Below.refl _ _) ?_
                              refine hg_take 20 (by rfl) (want_t (dj := 111) (by rfl) (by kernel_rfl) rfl) (by rfl) rfl (by decide) (by kernel_rfl) (by kernel_rfl) (by kernel_rfl) (fun _ _ _ h => h) (Below.refl _ _) (fun q hq => y_pick false rfl rfl rfl) ?_
                              refine hg_take 21 (by rfl) (want_t (dj := 111) (by rfl) (by kernel_rfl) rfl) (by rfl) rfl (by decide) (by kernel_rfl) (by kernel_rfl) (by kernel_rfl) (fun _ _ _ h => h) (Below.refl _ _) (fun q hq => yb (b := (false == false)) (show (false == false) = true from rfl) (y_beq (a := false) (b := false) hubo rfl rfl rfl)) ?_
                              refine hg_take 22 (by rfl) (want_none (by rfl)) (by rfl) rfl (by decide) (by kernel_rfl) (by kernel_rfl) (by kernel_rfl) (fun _ _ _ h => h) (Below.refl _ _) (fun q hq => y_pick true rfl rfl rfl) ?_
                              refine hg_take 23 (by rfl) (want_none (by rfl)) (by rfl) rfl (by decide) (by kernel_rfl) (by kernel_rfl) (by kernel_rfl) (fun _ _ _ h => h) (Below.refl _ _) (fun q hq => y_move rfl rfl) ?_
                              refine hg_take 24 (by rfl) (want_t (dj := 123) (by rfl) (by kernel_rfl) rfl) (by rfl) rfl (by decide) (by kernel_rfl) (by kernel_rfl) (by kernel_rfl) (fun _ _ _ h => h) (Below.refl _ _) (fun q hq => y_move rfl rfl) ?_
                              have r1 := RowAt.below dW44 r1.lt r1
                              refine hg_take 25 (by rfl) (want_t (dj := 123) (by rfl) (by kernel_rfl) rfl) (by rfl) rfl (by decide) (by kernel_rfl) (by kernel_rfl) (by kernel_rfl) (fun _ _ _ h => h) (Below.refl _ _) (fun q hq => y_loadA (RowAt.below hq r1.lt r1) (by kernel_rfl) (by kernel_rfl) rfl rfl) ?_
                              refine hg_take 28 (by rfl) (want_t (dj := 123) (by rfl) (by kernel_rfl) rfl) (by rfl) rfl (by decide) (by kernel_rfl) (by kernel_rfl) (by kernel_rfl) (fun _ _ _ h => h) (Below.refl _ _) (fun q hq => y_loadA (RowAt.below hq r1.lt r1) (by kernel_rfl) (by kernel_rfl) rfl rfl) ?_
                              refine hg_take 29 (by rfl) (want_t (dj := 123) (by rfl) (by kernel_rfl) rfl) (by rfl) rfl (by decide) (by kernel_rfl) (by kernel_rfl) (by kernel_rfl) (fun _ _ _ h => h) (Below.refl _ _) (fun q hq => y_move rfl rfl) ?_
                              refine hg_take 30 (by rfl) (want_t (dj := 123) (by rfl) (by kernel_rfl) rfl) (by rfl) rfl (by decide) (by kernel_rfl) (by kernel_rfl) (by kernel_rfl) (fun _ _ _ h => h) (Below.refl _ _) (fun q hq => y_move rfl rfl) ?_
                              have hl := hl.below (dW44.mono (by omega))
                              refine hg_one 26 (by rfl) (by kernel_rfl) (want_t (dj := 123) (by rfl) (by kernel_rfl) rfl) ?_
                              refine lg_callw (want_t (dj := 123) (by rfl) (by kernel_rfl) rfl) (ofLeafN_any (maskK i 65535 : Int) (hl.more (B' := W44.heap.size) (by omega)) (Nat.le_refl _)) (by kernel_rfl) rfl rfl rfl (by decide) ?_
                              rintro _ w60 ⟨r60, rfl, m60, hw60⟩
                              have zw60 := hw60.size
                              have lp60 := ofLeafO_le (maskK i 65535 : Int) L
                              refine hg_next hw60 ?_
                              refine hg_up hw60 ?_
                              have by61 : Bytes (ofLeafO (maskK i 65535 : Int) L) := m60.bytes
                              refine hg_take 27 (by rfl) (want_t (dj := 123) (by rfl) (by kernel_rfl) rfl) (by rfl) rfl (by decide) (by kernel_rfl) (by kernel_rfl) (by kernel_rfl) (fun _ _ _ h => h) (Below.refl _ _) (fun q hq => y_strS (m60.below (hq.mono (by omega))) rfl rfl) ?_
                              have hl := hl.below (hw60.mono (by omega))
                              have h := h.below (hw60.mono (by omega))
                              have h2 := h2.below (hw60.mono (by omega))
                              refine hg_one 31 (by rfl) (by kernel_rfl) (want_t (dj := 123) (by rfl) (by kernel_rfl) rfl) ?_
                              refine lg_callw (want_t (dj := 123) (by rfl) (by kernel_rfl) rfl) (ofInnerN_any (hl.more (B' := w60.heap.size) (by omega)) (h.more (B' := w60.heap.size) (by omega)) (h2.more (B' := w60.heap.size) (by omega)) (Nat.le_refl _) (by first | omega | (simp only [List.length_append, List.length_cons, List.length_nil, numOct_length, flagOct_length]; omega)) (by first | omega | (simp only [List.length_append, List.length_cons, List.length_nil, numOct_length, flagOct_length]; omega))) (by kernel_rfl) rfl rfl rfl (by decide) ?_
                              rintro _ w62 ⟨r62, rfl, m62, hw62⟩
                              have zw62 := hw62.size
                              have lp62 := ofInnerO_le L xs ys
                              refine hg_next hw62 ?_
                              refine hg_up hw62 ?_
                              have by63 : Bytes (ofInnerO L xs ys) := m62.bytes
                              refine hg_take 32 (by rfl) (want_t (dj := 123) (by rfl) (by kernel_rfl) rfl) (by rfl) rfl (by decide) (by kernel_rfl) (by kernel_rfl) (by kernel_rfl) (fun _ _ _ h => h) (Below.refl _ _) (fun q hq => y_strS (m62.below (hq.mono (by omega))) rfl rfl) ?_
                              refine hg_take 33 (by rfl) (want_t (dj := 123) (by rfl) (by kernel_rfl) rfl) (by rfl) rfl (by decide) (by kernel_rfl) (by kernel_rfl) (by kernel_rfl) (fun _ _ _ h => h) (Below.refl _ _) (fun q hq => yb (nd_t (show ¬ ((ofLeafO (maskK i 65535 : Int) L) = (ofInnerO L xs ys)) from (leaf_inner _ _ _ _ _))) (y_sneS (xs := (ofLeafO (maskK i 65535 : Int) L)) (ys := (ofInnerO L xs ys)) by61 by63 rfl rfl rfl)) ?_
                              refine hg_take 34 (by rfl) (want_none (by rfl)) (by rfl) rfl (by decide) (by kernel_rfl) (by kernel_rfl) (by kernel_rfl) (fun _ _ _ h => h) (Below.refl _ _) (fun q hq => y_pick true rfl rfl rfl) ?_
                              refine hg_take 35 (by rfl) (want_none (by rfl)) (by rfl) rfl (by decide) (by kernel_rfl) (by kernel_rfl) (by kernel_rfl) (fun _ _ _ h => h) (Below.refl _ _) (fun q hq => y_assign rfl rfl) ?_
                              refine hg_done (by kernel_rfl) ?_
                              refine nx (E' := [(12, _)]) (fk rfl fn) ?_
                              refine cg_ret ?_
                              have u := u.trans (dW44.mono u.size)
                              have u := u.trans (hw60.mono u.size)
                              have u := u.trans (hw62.mono u.size)
                              exact eg_ret_tmp rfl rfl ⟨_, rfl, rfl, u⟩
                      · refine hg_take 2 (by rfl) (want_t (dj := 101) (by rfl) (by kernel_rfl) rfl) (by rfl) rfl (by decide) (by kernel_rfl) (by kernel_rfl) (by kernel_rfl) (fun _ _ _ h => h) (Below.refl _ _) (fun q hq => yb (decide_eq_false c45) (y_move rfl rfl)) ?_
                        refine hg_take 3 (by rfl) (want_t (dj := 101) (by rfl) (by kernel_rfl) rfl) (by rfl) rfl (by decide) (by kernel_rfl) (by kernel_rfl) (by kernel_rfl) (fun _ _ _ h => h) (Below.refl _ _) (fun q hq => y_move rfl rfl) ?_
                        refine hg_take 4 (by rfl) (want_t (dj := 101) (by rfl) (by kernel_rfl) rfl) (by rfl) rfl (by decide) (by kernel_rfl) (by kernel_rfl) (by kernel_rfl) (fun _ _ _ h => h) (Below.refl _ _) (fun q hq => y_move rfl rfl) ?_
                        by_cases c64 : (maskK i 65535 : Int) = (maskK j 65535 : Int)
                        · refine hg_take 5 (by rfl) (want_t (dj := 101) (by rfl) (by kernel_rfl) rfl) (by rfl) rfl (by decide) (by kernel_rfl) (by kernel_rfl) (by kernel_rfl) (fun _ _ _ h => h) (Below.refl _ _) (fun q hq => yb (decide_eq_true c64) (yi_eql rfl rfl rfl)) ?_
                          refine hg_take 6 (by rfl) (want_t (dj := 101) (by rfl) (by kernel_rfl) rfl) (by rfl) rfl (by decide) (by kernel_rfl) (by kernel_rfl) (by kernel_rfl) (fun _ _ _ h => h) (Below.refl _ _) (fun q hq => y_move rfl rfl) ?_
                          cases b18
                          · have q18 := of_decide_eq_false hb18.symm
                            refine hg_take 7 (by rfl) (want_t (dj := 106) (by rfl) (by kernel_rfl) rfl) (by rfl) rfl (by decide) (by kernel_rfl) (by kernel_rfl) (by kernel_rfl) (fun _ _ _ h => h) (Below.refl _ _) (fun q hq => y_move rfl rfl) ?_
                            refine hg_take 8 (by rfl) (want_t (dj := 101) (by rfl) (by kernel_rfl) rfl) (by rfl) rfl (by decide) (by kernel_rfl) (by kernel_rfl) (by kernel_rfl) (fun _ _ _ h => h) (Below.refl _ _) (fun q hq => y_pick true rfl rfl rfl) ?_
                            refine hg_take 9 (by rfl) (want_t (dj := 101) (by rfl) (by kernel_rfl) rfl) (by rfl) rfl (by decide) (by kernel_rfl) (by kernel_rfl) (by kernel_rfl) (fun _ _ _ h => h) (Below.refl _ _) (fun q hq => yb (b := (false == false)) (show (false == false) = true from rfl) (y_beq (a := false) (b := false) hubo rfl rfl rfl)) ?_
                            refine hg_take 10 (by rfl) (want_none (by rfl)) (by rfl) rfl (by decide) (by kernel_rfl) (by kernel_rfl) (by kernel_rfl) (fun _ _ _ h => h) (Below.refl _ _) (fun q hq => y_pick true rfl rfl rfl) ?_
                            refine hg_take 11 (by rfl) (want_none (by rfl)) (by rfl) rfl (by decide) (by kernel_rfl) (by kernel_rfl) (by kernel_rfl) (fun _ _ _ h => h) (Below.refl _ _) (fun q hq => y_move rfl rfl) ?_
                            by_cases c65 : (ofInnerO L xs ys) = (ofInnerO M ys xs)
                            · obtain ⟨ix, iy⟩ := inner_apart c11 c13 (by omega) (by omega) c65
                              refine hg_take 12 (by rfl) (want_t (dj := 111) (by rfl) (by kernel_rfl) rfl) (by rfl) rfl (by decide) (by kernel_rfl) (by kernel_rfl) (by kernel_rfl) (fun _ _ _ h => h) (Below.refl _ _) (fun q hq => yb (decide_eq_true c65) (y_move rfl rfl)) ?_
                              refine hg_take 13 (by rfl) (want_t (dj := 111) (by rfl) (by kernel_rfl) rfl) (by rfl) rfl (by decide) (by kernel_rfl) (by kernel_rfl) (by kernel_rfl) (fun _ _ _ h => h) (Below.refl _ _) (fun q hq => y_move rfl rfl) ?_
                              have h := h.below (dW44.mono (by omega))
                              have by66 : Bytes xs := h.bytes
                              refine hg_take 14 (by rfl) (want_t (dj := 111) (by rfl) (by kernel_rfl) rfl) (by rfl) rfl (by decide) (by kernel_rfl) (by kernel_rfl) (by kernel_rfl) (fun _ _ _ h => h) (Below.refl _ _) (fun q hq => y_strS (h.below (hq.mono (by omega))) rfl rfl) ?_
                              refine hg_take 15 (by rfl) (want_t (dj := 111) (by rfl) (by kernel_rfl) rfl) (by rfl) rfl (by decide) (by kernel_rfl) (by kernel_rfl) (by kernel_rfl) (fun _ _ _ h => h) (Below.refl _ _) (fun q hq => y_move rfl rfl) ?_
                              have h2 := h2.below (dW44.mono (by omega))
                              have by67 : Bytes ys := h2.bytes
                              refine hg_take 16 (by rfl) (want_t (dj := 111) (by rfl) (by kernel_rfl) rfl) (by rfl) rfl (by decide) (by kernel_rfl) (by kernel_rfl) (by kernel_rfl) (fun _ _ _ h => h) (Below.refl _ _) (fun q hq => y_strS (h2.below (hq.mono (by omega))) rfl rfl) ?_
                              refine hg_take 17 (by rfl) (want_t (dj := 111) (by rfl) (by kernel_rfl) rfl) (by rfl) rfl (by decide) (by kernel_rfl) (by kernel_rfl) (by kernel_rfl) (fun _ _ _ h => h) (Below.refl _ _) (fun q hq => yb (decide_eq_true ix) (y_seqS (xs := xs) (ys := ys) by66 by67 rfl rfl rfl)) ?_
                              refine hg_take 18 (by rfl) (want_t (dj := 111) (by rfl) (by kernel_rfl) rfl) (by rfl) rfl (by decide) (by kernel_rfl) (by kernel_rfl) (by kernel_rfl) (fun _ _ _ h => h) (Below.refl _ _) (fun q hq => y_move rfl rfl) ?_
                              cases b19
                              · have q19 := of_decide_eq_false hb19.symm
                                exact absurd (iy.imp id ndSame_iff.2) q19
                              · have q19 := of_decide_eq_true hb19.symm
                                refine hg_take 19 (by rfl) (want_t (dj := 118) (by rfl) (by kernel_rfl) rfl) (by rfl) rfl (by decide) (by kernel_rfl) (by kernel_rfl) (by kernel_rfl) (fun _ _ _ h => h) (Below.refl _ _) (fun q hq => y_move rfl rfl) ?_
                                refine hg_take 20 (by rfl) (want_t (dj := 111) (by rfl) (by kernel_rfl) rfl) (by rfl) rfl (by decide) (by kernel_rfl) (by kernel_rfl) (by kernel_rfl) (fun _ _ _ h => h) (Below.refl _ _) (fun q hq => y_pick true rfl rfl rfl) ?_
                                refine hg_take 21 (by rfl) (want_t (dj := 111) (by rfl) (by kernel_rfl) rfl) (by rfl) rfl (by decide) (by kernel_rfl) (by kernel_rfl) (by kernel_rfl) (fun _ _ _ h => h) (Below.refl _ _) (fun q hq => yb (b := (true == true)) (show (true == true) = true from rfl) (y_beq (a := true) (b := true) hubo rfl rfl rfl)) ?_
                                refine hg_take 22 (by rfl) (want_none (by rfl)) (by rfl) rfl (by decide) (by kernel_rfl) (by kernel_rfl) (by kernel_rfl) (fun _ _ _ h => h) (Below.refl _ _) (fun q hq => y_pick true rfl rfl rfl) ?_
                                refine hg_take 23 (by rfl) (want_none (by rfl)) (by rfl) rfl (by decide) (by kernel_rfl) (by kernel_rfl) (by kernel_rfl) (fun _ _ _ h => h) (Below.refl _ _) (fun q hq => y_move rfl rfl) ?_
                                refine hg_take 24 (by rfl) (want_t (dj := 123) (by rfl) (by kernel_rfl) rfl) (by rfl) rfl (by decide) (by kernel_rfl) (by kernel_rfl) (by kernel_rfl) (fun _ _ _ h => h) (Below.refl _ _) (fun q hq => y_move rfl rfl) ?_
                                have r1 := RowAt.below dW44 r1.lt r1
                                refine hg_take 25 (by rfl) (want_t (dj := 123) (by rfl) (by kernel_rfl) rfl) (by rfl) rfl (by decide) (by kernel_rfl) (by kernel_rfl) (by kernel_rfl) (fun _ _ _ h => h) (Below.refl _ _) (fun q hq => y_loadA (RowAt.below hq r1.lt r1) (by kernel_rfl) (by kernel_rfl) rfl rfl) ?_
                                refine hg_take 28 (by rfl) (want_t (dj := 123) (by rfl) (by kernel_rfl) rfl) (by rfl) rfl (by decide) (by kernel_rfl) (by kernel_rfl) (by kernel_rfl) (fun _ _ _ h => h) (Below.refl _ _) (fun q hq => y_loadA (RowAt.below hq r1.lt r1) (by kernel_rfl) (by kernel_rfl) rfl rfl) ?_
                                refine hg_take 29 (by rfl) (want_t (dj := 123) (by rfl) (by kernel_rfl) rfl) (by rfl) rfl (by decide) (by kernel_rfl) (by kernel_rfl) (by kernel_rfl) (fun _ _ _ h => h) (Below.refl _ _) (fun q hq => y_move rfl rfl) ?_
                                refine hg_take 30 (by rfl) (want_t (dj := 123) (by rfl) (by kernel_rfl) rfl) (by rfl) rfl (by decide) (by kernel_rfl) (by kernel_rfl) (by kernel_rfl) (fun _ _ _ h => h) (Below.refl _ _) (fun q hq => y_move rfl rfl) ?_
                                have hl := hl.below (dW44.mono (by omega))
                                refine hg_one 26 (by rfl) (by kernel_rfl) (want_t (dj := 123) (by rfl) (by kernel_rfl) rfl) ?_
                                refine lg_callw (want_t (dj := 123) (by rfl) (by kernel_rfl) rfl) (ofLeafN_any (maskK i 65535 : Int) (hl.more (B' := W44.heap.size) (by omega)) (Nat.le_refl _)) (by kernel_rfl) rfl rfl rfl (by decide) ?_
                                rintro _ w68 ⟨r68, rfl, m68, hw68⟩
                                have zw68 := hw68.size
                                have lp68 := ofLeafO_le (maskK i 65535 : Int) L
                                refine hg_next hw68 ?_
                                refine hg_up hw68 ?_
                                have by69 : Bytes (ofLeafO (maskK i 65535 : Int) L) := m68.bytes
                                refine hg_take 27 (by rfl) (want_t (dj := 123) (by rfl) (by kernel_rfl) rfl) (by rfl) rfl (by decide) (by kernel_rfl) (by kernel_rfl) (by kernel_rfl) (fun _ _ _ h => h) (Below.refl _ _) (fun q hq => y_strS (m68.below (hq.mono (by omega))) rfl rfl) ?_
                                have hl := hl.below (hw68.mono (by omega))
                                have h := h.below (hw68.mono (by omega))
                                have h2 := h2.below (hw68.mono (by omega))
                                refine hg_one 31 (by rfl) (by kernel_rfl) (want_t (dj := 123) (by rfl) (by kernel_rfl) rfl) ?_
                                refine lg_callw (want_t (dj := 123) (by rfl) (by kernel_rfl) rfl) (ofInnerN_any (hl.more (B' := w68.heap.size) (by omega)) (h.more (B' := w68.heap.size) (by omega)) (h2.more (B' := w68.heap.size) (by omega)) (Nat.le_refl _) (by first | omega | (simp only [List.length_append, List.length_cons, List.length_nil, numOct_length, flagOct_length]; omega)) (by first | omega | (simp only [List.length_append, List.length_cons, List.length_nil, numOct_length, flagOct_length]; omega))) (by kernel_rfl) rfl rfl rfl (by decide) ?_
                                rintro _ w70 ⟨r70, rfl, m70, hw70⟩
                                have zw70 := hw70.size
                                have lp70 := ofInnerO_le L xs ys
                                refine hg_next hw70 ?_
                                refine hg_up hw70 ?_
                                have by71 : Bytes (ofInnerO L xs ys) := m70.bytes
                                refine hg_take 32 (by rfl) (want_t (dj := 123) (by rfl) (by kernel_rfl) rfl) (by rfl) rfl (by decide) (by kernel_rfl) (by kernel_rfl) (by kernel_rfl) (fun _ _ _ h => h) (Below.refl _ _) (fun q hq => y_strS (m70.below (hq.mono (by omega))) rfl rfl) ?_
                                refine hg_take 33 (by rfl) (want_t (dj := 123) (by rfl) (by kernel_rfl) rfl) (by rfl) rfl (by decide) (by kernel_rfl) (by kernel_rfl) (by kernel_rfl) (fun _ _ _ h => h) (Below.refl _ _) (fun q hq => yb (nd_t (show ¬ ((ofLeafO (maskK i 65535 : Int) L) = (ofInnerO L xs ys)) from (leaf_inner _ _ _ _ _))) (y_sneS (xs := (ofLeafO (maskK i 65535 : Int) L)) (ys := (ofInnerO L xs ys)) by69 by71 rfl rfl rfl)) ?_
                                refine hg_take 34 (by rfl) (want_none (by rfl)) (by rfl) rfl (by decide) (by kernel_rfl) (by kernel_rfl) (by kernel_rfl) (fun _ _ _ h => h) (Below.refl _ _) (fun q hq => y_pick true rfl rfl rfl) ?_
                                refine hg_take 35 (by rfl) (want_none (by rfl)) (by rfl) rfl (by decide) (by kernel_rfl) (by kernel_rfl) (by kernel_rfl) (fun _ _ _ h => h) (Below.refl _ _) (fun q hq => y_assign rfl rfl) ?_
                                refine hg_done (by kernel_rfl) ?_
                                refine nx (E' := [(12, _)]) (fk rfl fn) ?_
                                refine cg_ret ?_
                                have u := u.trans (dW44.mono u.size)
                                have u := u.trans (hw68.mono u.size)
                                have u := u.trans (hw70.mono u.size)
                                exact eg_ret_tmp rfl rfl ⟨_, rfl, rfl, u⟩
                            · refine hg_take 12 (by rfl) (want_t (dj := 111) (by rfl) (by kernel_rfl) rfl) (by rfl) rfl (by decide) (by kernel_rfl) (by kernel_rfl) (by kernel_rfl) (fun _ _ _ h => h) (Below.refl _ _) (fun q hq => yb (decide_eq_false c65) (y_move rfl rfl)) ?_
                              refine hg_take 13 (by rfl) (want_t (dj := 111) (by rfl) (by kernel_rfl) rfl) (by rfl) rfl (by decide) (by kernel_rfl) (by kernel_rfl) (by kernel_rfl) (fun _ _ _ h => h) (Below.refl _ _) (fun q hq => y_move rfl rfl) ?_
                              have h := h.below (dW44.mono (by omega))
                              have by72 : Bytes xs := h.bytes
                              refine hg_take 14 (by rfl) (want_t (dj := 111) (by rfl) (by kernel_rfl) rfl) (by rfl) rfl (by decide) (by kernel_rfl) (by kernel_rfl) (by kernel_rfl) (fun _ _ _ h => h) (Below.refl _ _) (fun q hq => y_strS (h.below (hq.mono (by omega))) rfl rfl) ?_
                              refine hg_take 15 (by rfl) (want_t (dj := 111) (by rfl) (by kernel_rfl) rfl) (by rfl) rfl (by decide) (by kernel_rfl) (by kernel_rfl) (by kernel_rfl) (fun _ _ _ h => h) (Below.refl _ _) (fun q hq => y_move rfl rfl) ?_
                              have h2 := h2.below (dW44.mono (by omega))
                              have by73 : Bytes ys := h2.bytes
                              refine hg_take 16 (by rfl) (want_t (dj := 111) (by rfl) (by kernel_rfl) rfl) (by rfl) rfl (by decide) (by kernel_rfl) (by kernel_rfl) (by kernel_rfl) (fun _ _ _ h => h) (Below.refl _ _) (fun q hq => y_strS (h2.below (hq.mono (by omega))) rfl rfl) ?_
                              by_cases c74 : xs = ys
                              · refine hg_take 17 (by rfl) (want_t (dj := 111) (by rfl) (by kernel_rfl) rfl) (by rfl) rfl (by decide) (by kernel_rfl) (by kernel_rfl) (by kernel_rfl) (fun _ _ _ h => h) (Below.refl _ _) (fun q hq => yb (decide_eq_true c74) (y_seqS (xs := xs) (ys := ys) by72 by73 rfl rfl rfl)) ?_
                                refine hg_take 18 (by rfl) (want_t (dj := 111) (by rfl) (by kernel_rfl) rfl) (by rfl) rfl (by decide) (by kernel_rfl) (by kernel_rfl) (by kernel_rfl) (fun _ _ _ h => h) (Below.refl _ _) (fun q hq => y_move rfl rfl) ?_
                                cases b19
                                · have q19 := of_decide_eq_false hb19.symm
                                  refine hg_take 19 (by rfl) (want_t (dj := 118) (by rfl) (by kernel_rfl) rfl) (by rfl) rfl (by decide) (by kernel_rfl) (by kernel_rfl) (by kernel_rfl) (fun _ _ _ h => h) (Below.refl _ _) (fun q hq => y_move rfl rfl) ?_
                                  refine hg_take 20 (by rfl) (want_t (dj := 111) (by rfl) (by kernel_rfl) rfl) (by rfl) rfl (by decide) (by kernel_rfl) (by kernel_rfl) (by kernel_rfl) (fun _ _ _ h => h) (Below.refl _ _) (fun q hq => y_pick true rfl rfl rfl) ?_
                                  refine hg_take 21 (by rfl) (want_t (dj := 111) (by rfl) (by kernel_rfl) rfl) (by rfl) rfl (by decide) (by kernel_rfl) (by kernel_rfl) (by kernel_rfl) (fun _ _ _ h => h) (Below.refl _ _) (fun q hq => yb (b := (false == false)) (show (false == false) = true from rfl) (y_beq (a := false) (b := false) hubo rfl rfl rfl)) ?_
                                  refine hg_take 22 (by rfl) (want_none (by rfl)) (by rfl) rfl (by decide) (by kernel_rfl) (by kernel_rfl) (by kernel_rfl) (fun _ _ _ h => h) (Below.refl _ _) (fun q hq => y_pick true rfl rfl rfl) ?_
                                  refine hg_take 23 (by rfl) (want_none (by rfl)) (by rfl) rfl (by decide) (by kernel_rfl) (by kernel_rfl) (by kernel_rfl) (fun _ _ _ h => h) (Below.refl _ _) (fun q hq => y_move rfl rfl) ?_
                                  refine hg_take 24 (by rfl) (want_t (dj := 123) (by rfl) (by kernel_rfl) rfl) (by rfl) rfl (by decide) (by kernel_rfl) (by kernel_rfl) (by kernel_rfl) (fun _ _ _ h => h) (Below.refl _ _) (fun q hq => y_move rfl rfl) ?_
                                  have r1 := RowAt.below dW44 r1.lt r1
                                  refine hg_take 25 (by rfl) (want_t (dj := 123) (by rfl) (by kernel_rfl) rfl) (by rfl) rfl (by decide) (by kernel_rfl) (by kernel_rfl) (by kernel_rfl) (fun _ _ _ h => h) (Below.refl _ _) (fun q hq => y_loadA (RowAt.below hq r1.lt r1) (by kernel_rfl) (by kernel_rfl) rfl rfl) ?_
                                  refine hg_take 28 (by rfl) (want_t (dj := 123) (by rfl) (by kernel_rfl) rfl) (by rfl) rfl (by decide) (by kernel_rfl) (by kernel_rfl) (by kernel_rfl) (fun _ _ _ h => h) (Below.refl _ _) (fun q hq => y_loadA (RowAt.below hq r1.lt r1) (by kernel_rfl) (by kernel_rfl) rfl rfl) ?_
                                  refine hg_take 29 (by rfl) (want_t (dj := 123) (by rfl) (by kernel_rfl) rfl) (by rfl) rfl (by decide) (by kernel_rfl) (by kernel_rfl) (by kernel_rfl) (fun _ _ _ h => h) (Below.refl _ _) (fun q hq => y_move rfl rfl) ?_
                                  refine hg_take 30 (by rfl) (want_t (dj := 123) (by rfl) (by kernel_rfl) rfl) (by rfl) rfl (by decide) (by kernel_rfl) (by kernel_rfl) (by kernel_rfl) (fun _ _ _ h => h) (Below.refl _ _) (fun q hq => y_move rfl rfl) ?_
                                  have hl := hl.below (dW44.mono (by omega))
                                  refine hg_one 26 (by rfl) (by kernel_rfl) (want_t (dj := 123) (by rfl) (by kernel_rfl) rfl) ?_
                                  refine lg_callw (want_t (dj := 123) (by rfl) (by kernel_rfl) rfl) (ofLeafN_any (maskK i 65535 : Int) (hl.more (B' := W44.heap.size) (by omega)) (Nat.le_refl _)) (by kernel_rfl) rfl rfl rfl (by decide) ?_
                                  rintro _ w75 ⟨r75, rfl, m75, hw75⟩
                                  have zw75 := hw75.size
                                  have lp75 := ofLeafO_le (maskK i 65535 : Int) L
                                  refine hg_next hw75 ?_
                                  refine hg_up hw75 ?_
                                  have by76 : Bytes (ofLeafO (maskK i 65535 : Int) L) := m75.bytes
                                  refine hg_take 27 (by rfl) (want_t (dj := 123) (by rfl) (by kernel_rfl) rfl) (by rfl) rfl (by decide) (by kernel_rfl) (by kernel_rfl) (by kernel_rfl) (fun _ _ _ h => h) (Below.refl _ _) (fun q hq => y_strS (m75.below (hq.mono (by omega))) rfl rfl) ?_
                                  have hl := hl.below (hw75.mono (by omega))
                                  have h := h.below (hw75.mono (by omega))
                                  have h2 := h2.below (hw75.mono (by omega))
                                  refine hg_one 31 (by rfl) (by kernel_rfl) (want_t (dj := 123) (by rfl) (by kernel_rfl) rfl) ?_
                                  refine lg_callw (want_t (dj := 123) (by rfl) (by kernel_rfl) rfl) (ofInnerN_any (hl.more (B' := w75.heap.size) (by omega)) (h.more (B' := w75.heap.size) (by omega)) (h2.more (B' := w75.heap.size) (by omega)) (Nat.le_refl _) (by first | omega | (simp only [List.length_append, List.length_cons, List.length_nil, numOct_length, flagOct_length]; omega)) (by first | omega | (simp only [List.length_append, List.length_cons, List.length_nil, numOct_length, flagOct_length]; omega))) (by kernel_rfl) rfl rfl rfl (by decide) ?_
                                  rintro _ w77 ⟨r77, rfl, m77, hw77⟩
                                  have zw77 := hw77.size
                                  have lp77 := ofInnerO_le L xs ys
                                  refine hg_next hw77 ?_
                                  refine hg_up hw77 ?_
                                  have by78 : Bytes (ofInnerO L xs ys) := m77.bytes
                                  refine hg_take 32 (by rfl) (want_t (dj := 123) (by rfl) (by kernel_rfl) rfl) (by rfl) rfl (by decide) (by kernel_rfl) (by kernel_rfl) (by kernel_rfl) (fun _ _ _ h => h) (Below.refl _ _) (fun q hq => y_strS (m77.below (hq.mono (by omega))) rfl rfl) ?_
                                  refine hg_take 33 (by rfl) (want_t (dj := 123) (by rfl) (by kernel_rfl) rfl) (by rfl) rfl (by decide) (by kernel_rfl) (by kernel_rfl) (by kernel_rfl) (fun _ _ _ h => h) (Below.refl _ _) (fun q hq => yb (nd_t (show ¬ ((ofLeafO (maskK i 65535 : Int) L) = (ofInnerO L xs ys)) from (leaf_inner _ _ _ _ _))) (y_sneS (xs := (ofLeafO (maskK i 65535 : Int) L)) (ys := (ofInnerO L xs ys)) by76 by78 rfl rfl rfl)) ?_
                                  refine hg_take 34 (by rfl) (want_none (by rfl)) (by rfl) rfl (by decide) (by kernel_rfl) (by kernel_rfl) (by kernel_rfl) (fun _ _ _ h => h) (Below.refl _ _) (fun q hq => y_pick true rfl rfl rfl) ?_
                                  refine hg_take 35 (by rfl) (want_none (by rfl)) (by rfl) rfl (by decide) (by kernel_rfl) (by kernel_rfl) (by kernel_rfl) (fun _ _ _ h => h) (Below.refl _ _) (fun q hq => y_assign rfl rfl) ?_
                                  refine hg_done (by kernel_rfl) ?_
                                  refine nx (E' := [(12, _)]) (fk rfl fn) ?_
                                  refine cg_ret ?_
                                  have u := u.trans (dW44.mono u.size)
                                  have u := u.trans (hw75.mono u.size)
                                  have u := u.trans (hw77.mono u.size)
                                  exact eg_ret_tmp rfl rfl ⟨_, rfl, rfl, u⟩
                                · have q19 := of_decide_eq_true hb19.symm
                                  exact absurd (inner_of c11 c13 q19 c74) c65
                              · refine hg_take 17 (by rfl) (want_t (dj := 111) (by rfl) (by kernel_rfl) rfl) (by rfl) rfl (by decide) (by kernel_rfl) (by kernel_rfl) (by kernel_rfl) (fun _ _ _ h => h) (Below.refl _ _) (fun q hq => yb (decide_eq_false c74) (y_seqS (xs := xs) (ys := ys) by72 by73 rfl rfl rfl)) ?_
                                refine hg_take 18 (by rfl) (want_t (dj := 111) (by rfl) (by kernel_rfl) rfl) (by rfl) rfl (by decide) (by kernel_rfl) (by kernel_rfl) (by kernel_rfl) (fun _ _ _ h => h) (Below.refl _ _) (fun q hq => y_move rfl rfl) ?_
                                refine hg_skip 19 (by rfl) (want_f (dj := 118) (by rfl) (by kernel_rfl) rfl) rfl (by decide) (by kernel_rfl) (by kernel_rfl) (by kernel_rfl) (fun _ _ _ h => h) (Below.refl _ _) ?_
                                refine hg_take 20 (by rfl) (want_t (dj := 111) (by rfl) (by kernel_rfl) rfl) (by rfl) rfl (by decide) (by kernel_rfl) (by kernel_rfl) (by kernel_rfl) (fun _ _ _ h => h) (Below.refl _ _) (fun q hq => y_pick false rfl rfl rfl) ?_
                                refine hg_take 21 (by rfl) (want_t (dj := 111) (by rfl) (by kernel_rfl) rfl) (by rfl) rfl (by decide) (by kernel_rfl) (by kernel_rfl) (by kernel_rfl) (fun _ _ _ h => h) (Below.refl _ _) (fun q hq => yb (b := (false == false)) (show (false == false) = true from rfl) (y_beq (a := false) (b := false) hubo rfl rfl rfl)) ?_
                                refine hg_take 22 (by rfl) (want_none (by rfl)) (by rfl) rfl (by decide) (by kernel_rfl) (by kernel_rfl) (by kernel_rfl) (fun _ _ _ h => h) (Below.refl _ _) (fun q hq => y_pick true rfl rfl rfl) ?_
                                refine hg_take 23 (by rfl) (want_none (by rfl)) (by rfl) rfl (by decide) (by kernel_rfl) (by kernel_rfl) (by kernel_rfl) (fun _ _ _ h => h) (Below.refl _ _) (fun q hq => y_move rfl rfl) ?_
                                refine hg_take 24 (by rfl) (want_t (dj := 123) (by rfl) (by kernel_rfl) rfl) (by rfl) rfl (by decide) (by kernel_rfl) (by kernel_rfl) (by kernel_rfl) (fun _ _ _ h => h) (Below.refl _ _) (fun q hq => y_move rfl rfl) ?_
                                have r1 := RowAt.below dW44 r1.lt r1
                                refine hg_take 25 (by rfl) (want_t (dj := 123) (by rfl) (by kernel_rfl) rfl) (by rfl) rfl (by decide) (by kernel_rfl) (by kernel_rfl) (by kernel_rfl) (fun _ _ _ h => h) (Below.refl _ _) (fun q hq => y_loadA (RowAt.below hq r1.lt r1) (by kernel_rfl) (by kernel_rfl) rfl rfl) ?_
                                refine hg_take 28 (by rfl) (want_t (dj := 123) (by rfl) (by kernel_rfl) rfl) (by rfl) rfl (by decide) (by kernel_rfl) (by kernel_rfl) (by kernel_rfl) (fun _ _ _ h => h) (Below.refl _ _) (fun q hq => y_loadA (RowAt.below hq r1.lt r1) (by kernel_rfl) (by kernel_rfl) rfl rfl) ?_
                                refine hg_take 29 (by rfl) (want_t (dj := 123) (by rfl) (by kernel_rfl) rfl) (by rfl) rfl (by decide) (by kernel_rfl) (by kernel_rfl) (by kernel_rfl) (fun _ _ _ h => h) (Below.refl _ _) (fun q hq => y_move rfl rfl) ?_
                                refine hg_take 30 (by rfl) (want_t (dj := 123) (by rfl) (by kernel_rfl) rfl) (by rfl) rfl (by decide) (by kernel_rfl) (by kernel_rfl) (by kernel_rfl) (fun _ _ _ h => h) (Below.refl _ _) (fun q hq => y_move rfl rfl) ?_
                                have hl := hl.below (dW44.mono (by omega))
                                refine hg_one 26 (by rfl) (by kernel_rfl) (want_t (dj := 123) (by rfl) (by kernel_rfl) rfl) ?_
                                refine lg_callw (want_t (dj := 123) (by rfl) (by kernel_rfl) rfl) (ofLeafN_any (maskK i 65535 : Int) (hl.more (B' := W44.heap.size) (by omega)) (Nat.le_refl _)) (by kernel_rfl) rfl rfl rfl (by decide) ?_
                                rintro _ w79 ⟨r79, rfl, m79, hw79⟩
                                have zw79 := hw79.size
                                have lp79 := ofLeafO_le (maskK i 65535 : Int) L
                                refine hg_next hw79 ?_
                                refine hg_up hw79 ?_
                                have by80 : Bytes (ofLeafO (maskK i 65535 : Int) L) := m79.bytes
                                refine hg_take 27 (by rfl) (want_t (dj := 123) (by rfl) (by kernel_rfl) rfl) (by rfl) rfl (by decide) (by kernel_rfl) (by kernel_rfl) (by kernel_rfl) (fun _ _ _ h => h) (Below.refl _ _) (fun q hq => y_strS (m79.below (hq.mono (by omega))) rfl rfl) ?_
                                have hl := hl.below (hw79.mono (by omega))
                                have h := h.below (hw79.mono (by omega))
                                have h2 := h2.below (hw79.mono (by omega))
                                refine hg_one 31 (by rfl) (by kernel_rfl) (want_t (dj := 123) (by rfl) (by kernel_rfl) rfl) ?_
                                refine lg_callw (want_t (dj := 123) (by rfl) (by kernel_rfl) rfl) (ofInnerN_any (hl.more (B' := w79.heap.size) (by omega)) (h.more (B' := w79.heap.size) (by omega)) (h2.more (B' := w79.heap.size) (by omega)) (Nat.le_refl _) (by first | omega | (simp only [List.length_append, List.length_cons, List.length_nil, numOct_length, flagOct_length]; omega)) (by first | omega | (simp only [List.length_append, List.length_cons, List.length_nil, numOct_length, flagOct_length]; omega))) (by kernel_rfl) rfl rfl rfl (by decide) ?_
                                rintro _ w81 ⟨r81, rfl, m81, hw81⟩
                                have zw81 := hw81.size
                                have lp81 := ofInnerO_le L xs ys
                                refine hg_next hw81 ?_
                                refine hg_up hw81 ?_
                                have by82 : Bytes (ofInnerO L xs ys) := m81.bytes
                                refine hg_take 32 (by rfl) (want_t (dj := 123) (by rfl) (by kernel_rfl) rfl) (by rfl) rfl (by decide) (by kernel_rfl) (by kernel_rfl) (by kernel_rfl) (fun _ _ _ h => h) (Below.refl _ _) (fun q hq => y_strS (m81.below (hq.mono (by omega))) rfl rfl) ?_
                                refine hg_take 33 (by rfl) (want_t (dj := 123) (by rfl) (by kernel_rfl) rfl) (by rfl) rfl (by decide) (by kernel_rfl) (by kernel_rfl) (by kernel_rfl) (fun _ _ _ h => h) (Below.refl _ _) (fun q hq => yb (nd_t (show ¬ ((ofLeafO (maskK i 65535 : Int) L) = (ofInnerO L xs ys)) from (leaf_inner _ _ _ _ _))) (y_sneS (xs := (ofLeafO (maskK i 65535 : Int) L)) (ys := (ofInnerO L xs ys)) by80 by82 rfl rfl rfl)) ?_
                                refine hg_take 34 (by rfl) (want_none (by rfl)) (by rfl) rfl (by decide) (by kernel_rfl) (by kernel_rfl) (by kernel_rfl) (fun _ _ _ h => h) (Below.refl _ _) (fun q hq => y_pick true rfl rfl rfl) ?_
                                refine hg_take 35 (by rfl) (want_none (by rfl)) (by rfl) rfl (by decide) (by kernel_rfl) (by kernel_rfl) (by kernel_rfl) (fun _ _ _ h => h) (Below.refl _ _) (fun q hq => y_assign rfl rfl) ?_
                                refine hg_done (by kernel_rfl) ?_
                                refine nx (E' := [(12, _)]) (fk rfl fn) ?_
                                refine cg_ret ?_
                                have u := u.trans (dW44.mono u.size)
                                have u := u.trans (hw79.mono u.size)
                                have u := u.trans (hw81.mono u.size)
                                exact eg_ret_tmp rfl rfl ⟨_, rfl, rfl, u⟩
                          · have q18 := of_decide_eq_true hb18.symm
                            exact absurd (leaf_of c11 c13 q18 c64) c45
                        · refine hg_take 5 (by rfl) (want_t (dj := 101) (by rfl) (by kernel_rfl) rfl) (by rfl) rfl (by decide) (by kernel_rfl) (by kernel_rfl) (by kernel_rfl) (fun _ _ _ h => h) (Below.refl _ _) (fun q hq => yb (decide_eq_false c64) (yi_eql rfl rfl rfl)) ?_
                          refine hg_take 6 (by rfl) (want_t (dj := 101) (by rfl) (by kernel_rfl) rfl) (by rfl) rfl (by decide) (by kernel_rfl) (by kernel_rfl) (by kernel_rfl) (fun _ _ _ h => h) (Below.refl _ _) (fun q hq => y_move rfl rfl) ?_
                          refine hg_skip 7 (by rfl) (want_f (dj := 106) (by rfl) (by kernel_rfl) rfl) rfl (by decide) (by kernel_rfl) (by kernel_rfl) (by kernel_rfl) (fun _ _ _ h => h) (Below.refl _ _) ?_
                          refine hg_take 8 (by rfl) (want_t (dj := 101) (by rfl) (by kernel_rfl) rfl) (by rfl) rfl (by decide) (by kernel_rfl) (by kernel_rfl) (by kernel_rfl) (fun _ _ _ h => h) (Below.refl _ _) (fun q hq => y_pick false rfl rfl rfl) ?_
                          refine hg_take 9 (by rfl) (want_t (dj := 101) (by rfl) (by kernel_rfl) rfl) (by rfl) rfl (by decide) (by kernel_rfl) (by kernel_rfl) (by kernel_rfl) (fun _ _ _ h => h) (Below.refl _ _) (fun q hq => yb (b := (false == false)) (show (false == false) = true from rfl) (y_beq (a := false) (b := false) hubo rfl rfl rfl)) ?_
                          refine hg_take 10 (by rfl) (want_none (by rfl)) (by rfl) rfl (by decide) (by kernel_rfl) (by kernel_rfl) (by kernel_rfl) (fun _ _ _ h => h) (Below.refl _ _) (fun q hq => y_pick true rfl rfl rfl) ?_
                          refine hg_take 11 (by rfl) (want_none (by rfl)) (by rfl) rfl (by decide) (by kernel_rfl) (by kernel_rfl) (by kernel_rfl) (fun _ _ _ h => h) (Below.refl _ _) (fun q hq => y_move rfl rfl) ?_
                          by_cases c83 : (ofInnerO L xs ys) = (ofInnerO M ys xs)
                          · obtain ⟨ix, iy⟩ := inner_apart c11 c13 (by omega) (by omega) c83
                            refine hg_take 12 (by rfl) (want_t (dj := 111) (by rfl) (by kernel_rfl) rfl) (by rfl) rfl (by decide) (by kernel_rfl) (by kernel_rfl) (by kernel_rfl) (fun _ _ _ h => h) (Below.refl _ _) (fun q hq => yb (decide_eq_true c83) (y_move rfl rfl)) ?_
                            refine hg_take 13 (by rfl) (want_t (dj := 111) (by rfl) (by kernel_rfl) rfl) (by rfl) rfl (by decide) (by kernel_rfl) (by kernel_rfl) (by kernel_rfl) (fun _ _ _ h => h) (Below.refl _ _) (fun q hq => y_move rfl rfl) ?_
                            have h := h.below (dW44.mono (by omega))
                            have by84 : Bytes xs := h.bytes
                            refine hg_take 14 (by rfl) (want_t (dj := 111) (by rfl) (by kernel_rfl) rfl) (by rfl) rfl (by decide) (by kernel_rfl) (by kernel_rfl) (by kernel_rfl) (fun _ _ _ h => h) (Below.refl _ _) (fun q hq => y_strS (h.below (hq.mono (by omega))) rfl rfl) ?_
                            refine hg_take 15 (by rfl) (want_t (dj := 111) (by rfl) (by kernel_rfl) rfl) (by rfl) rfl (by decide) (by kernel_rfl) (by kernel_rfl) (by kernel_rfl) (fun _ _ _ h => h) (Below.refl _ _) (fun q hq => y_move rfl rfl) ?_
                            have h2 := h2.below (dW44.mono (by omega))
                            have by85 : Bytes ys := h2.bytes
                            refine hg_take 16 (by rfl) (want_t (dj := 111) (by rfl) (by kernel_rfl) rfl) (by rfl) rfl (by decide) (by kernel_rfl) (by kernel_rfl) (by kernel_rfl) (fun _ _ _ h => h) (Below.refl _ _) (fun q hq => y_strS (h2.below (hq.mono (by omega))) rfl rfl) ?_
                            refine hg_take 17 (by rfl) (want_t (dj := 111) (by rfl) (by kernel_rfl) rfl) (by rfl) rfl (by decide) (by kernel_rfl) (by kernel_rfl) (by kernel_rfl) (fun _ _ _ h => h) (Below.refl _ _) (fun q hq => yb (decide_eq_true ix) (y_seqS (xs := xs) (ys := ys) by84 by85 rfl rfl rfl)) ?_
                            refine hg_take 18 (by rfl) (want_t (dj := 111) (by rfl) (by kernel_rfl) rfl) (by rfl) rfl (by decide) (by kernel_rfl) (by kernel_rfl) (by kernel_rfl) (fun _ _ _ h => h) (Below.refl _ _) (fun q hq => y_move rfl rfl) ?_
                            cases b19
                            · have q19 := of_decide_eq_false hb19.symm
                              exact absurd (iy.imp id ndSame_iff.2) q19
                            · have q19 := of_decide_eq_true hb19.symm
                              refine hg_take 19 (by rfl) (want_t (dj := 118) (by rfl) (by kernel_rfl) rfl) (by rfl) rfl (by decide) (by kernel_rfl) (by kernel_rfl) (by kernel_rfl) (fun _ _ _ h => h) (Below.refl _ _) (fun q hq => y_move rfl rfl) ?_
                              refine hg_take 20 (by rfl) (want_t (dj := 111) (by rfl) (by kernel_rfl) rfl) (by rfl) rfl (by decide) (by kernel_rfl) (by kernel_rfl) (by kernel_rfl) (fun _ _ _ h => h) (Below.refl _ _) (fun q hq => y_pick true rfl rfl rfl) ?_
                              refine hg_take 21 (by rfl) (want_t (dj := 111) (by rfl) (by kernel_rfl) rfl) (by rfl) rfl (by decide) (by kernel_rfl) (by kernel_rfl) (by kernel_rfl) (fun _ _ _ h => h) (Below.refl _ _) (fun q hq => yb (b := (true == true)) (show (true == true) = true from rfl) (y_beq (a := true) (b := true) hubo rfl rfl rfl)) ?_
                              refine hg_take 22 (by rfl) (want_none (by rfl)) (by rfl) rfl (by decide) (by kernel_rfl) (by kernel_rfl) (by kernel_rfl) (fun _ _ _ h => h) (Below.refl _ _) (fun q hq => y_pick true rfl rfl rfl) ?_
                              refine hg_take 23 (by rfl) (want_none (by rfl)) (by rfl) rfl (by decide) (by kernel_rfl) (by kernel_rfl) (by kernel_rfl) (fun _ _ _ h => h) (Below.refl _ _) (fun q hq => y_move rfl rfl) ?_
                              refine hg_take 24 (by rfl) (want_t (dj := 123) (by rfl) (by kernel_rfl) rfl) (by rfl) rfl (by decide) (by kernel_rfl) (by kernel_rfl) (by kernel_rfl) (fun _ _ _ h => h) (Below.refl _ _) (fun q hq => y_move rfl rfl) ?_
                              have r1 := RowAt.below dW44 r1.lt r1
                              refine hg_take 25 (by rfl) (want_t (dj := 123) (by rfl) (by kernel_rfl) rfl) (by rfl) rfl (by decide) (by kernel_rfl) (by kernel_rfl) (by kernel_rfl) (fun _ _ _ h => h) (Below.refl _ _) (fun q hq => y_loadA (RowAt.below hq r1.lt r1) (by kernel_rfl) (by kernel_rfl) rfl rfl) ?_
                              refine hg_take 28 (by rfl) (want_t (dj := 123) (by rfl) (by kernel_rfl) rfl) (by rfl) rfl (by decide) (by kernel_rfl) (by kernel_rfl) (by kernel_rfl) (fun _ _ _ h => h) (Below.refl _ _) (fun q hq => y_loadA (RowAt.below hq r1.lt r1) (by kernel_rfl) (by kernel_rfl) rfl rfl) ?_
                              refine hg_take 29 (by rfl) (want_t (dj := 123) (by rfl) (by kernel_rfl) rfl) (by rfl) rfl (by decide) (by kernel_rfl) (by kernel_rfl) (by kernel_rfl) (fun _ _ _ h => h) (Below.refl _ _) (fun q hq => y_move rfl rfl) ?_
                              refine hg_take 30 (by rfl) (want_t (dj := 123) (by rfl) (by kernel_rfl) rfl) (by rfl) rfl (by decide) (by kernel_rfl) (by kernel_rfl) (by kernel_rfl) (fun _ _ _ h => h) (Below.refl _ _) (fun q hq => y_move rfl rfl) ?_
                              have hl := hl.below (dW44.mono (by omega))
                              refine hg_one 26 (by rfl) (by kernel_rfl) (want_t (dj := 123) (by rfl) (by kernel_rfl) rfl) ?_
                              refine lg_callw (want_t (dj := 123) (by rfl) (by kernel_rfl) rfl) (ofLeafN_any (maskK i 65535 : Int) (hl.more (B' := W44.heap.size) (by omega)) (Nat.le_refl _)) (by kernel_rfl) rfl rfl rfl (by decide) ?_
                              rintro _ w86 ⟨r86, rfl, m86, hw86⟩
                              have zw86 := hw86.size
                              have lp86 := ofLeafO_le (maskK i 65535 : Int) L
                              refine hg_next hw86 ?_
                              refine hg_up hw86 ?_
                              have by87 : Bytes (ofLeafO (maskK i 65535 : Int) L) := m86.bytes
                              refine hg_take 27 (by rfl) (want_t (dj := 123) (by rfl) (by kernel_rfl) rfl) (by rfl) rfl (by decide) (by kernel_rfl) (by kernel_rfl) (by kernel_rfl) (fun _ _ _ h => h) (Below.refl _ _) (fun q hq => y_strS (m86.below (hq.mono (by omega))) rfl rfl) ?_
                              have hl := hl.below (hw86.mono (by omega))
                              have h := h.below (hw86.mono (by omega))
                              have h2 := h2.below (hw86.mono (by omega))
                              refine hg_one 31 (by rfl) (by kernel_rfl) (want_t (dj := 123) (by rfl) (by kernel_rfl) rfl) ?_
                              refine lg_callw (want_t (dj := 123) (by rfl) (by kernel_rfl) rfl) (ofInnerN_any (hl.more (B' := w86.heap.size) (by omega)) (h.more (B' := w86.heap.size) (by omega)) (h2.more (B' := w86.heap.size) (by omega)) (Nat.le_refl _) (by first | omega | (simp only [List.length_append, List.length_cons, List.length_nil, numOct_length, flagOct_length]; omega)) (by first | omega | (simp only [List.length_append, List.length_cons, List.length_nil, numOct_length, flagOct_length]; omega))) (by kernel_rfl) rfl rfl rfl (by decide) ?_
                              rintro _ w88 ⟨r88, rfl, m88, hw88⟩
                              have zw88 := hw88.size
                              have lp88 := ofInnerO_le L xs ys
                              refine hg_next hw88 ?_
                              refine hg_up hw88 ?_
                              have by89 : Bytes (ofInnerO L xs ys) := m88.bytes
                              refine hg_take 32 (by rfl) (want_t (dj := 123) (by rfl) (by kernel_rfl) rfl) (by rfl) rfl (by decide) (by kernel_rfl) (by kernel_rfl) (by kernel_rfl) (fun _ _ _ h => h) (Below.refl _ _) (fun q hq => y_strS (m88.below (hq.mono (by omega))) rfl rfl) ?_
                              refine hg_take 33 (by rfl) (want_t (dj := 123) (by rfl) (by kernel_rfl) rfl) (by rfl) rfl (by decide) (by kernel_rfl) (by kernel_rfl) (by kernel_rfl) (fun _ _ _ h => h) (Below.refl _ _) (fun q hq => yb (nd_t (show ¬ ((ofLeafO (maskK i 65535 : Int) L) = (ofInnerO L xs ys)) from (leaf_inner _ _ _ _ _))) (y_sneS (xs := (ofLeafO (maskK i 65535 : Int) L)) (ys := (ofInnerO L xs ys)) by87 by89 rfl rfl rfl)) ?_
                              refine hg_take 34 (by rfl) (want_none (by rfl)) (by rfl) rfl (by decide) (by kernel_rfl) (by kernel_rfl) (by kernel_rfl) (fun _ _ _ h => h) (Below.refl _ _) (fun q hq => y_pick true rfl rfl rfl) ?_
                              refine hg_take 35 (by rfl) (want_none (by rfl)) (by rfl) rfl (by decide) (by kernel_rfl) (by kernel_rfl) (by kernel_rfl) (fun _ _ _ h => h) (Below.refl _ _) (fun q hq => y_assign rfl rfl) ?_
                              refine hg_done (by kernel_rfl) ?_
                              refine nx (E' := [(12, _)]) (fk rfl fn) ?_
                              refine cg_ret ?_
                              have u := u.trans (dW44.mono u.size)
                              have u := u.trans (hw86.mono u.size)
                              have u := u.trans (hw88.mono u.size)
                              exact eg_ret_tmp rfl rfl ⟨_, rfl, rfl, u⟩
                          · refine hg_take 12 (by rfl) (want_t (dj := 111) (by rfl) (by kernel_rfl) rfl) (by rfl) rfl (by decide) (by kernel_rfl) (by kernel_rfl) (by kernel_rfl) (fun _ _ _ h => h) (Below.refl _ _) (fun q hq => yb (decide_eq_false c83) (y_move rfl rfl)) ?_
                            refine hg_take 13 (by rfl) (want_t (dj := 111) (by rfl) (by kernel_rfl) rfl) (by rfl) rfl (by decide) (by kernel_rfl) (by kernel_rfl) (by kernel_rfl) (fun _ _ _ h => h) (Below.refl _ _) (fun q hq => y_move rfl rfl) ?_
                            have h := h.below (dW44.mono (by omega))
                            have by90 : Bytes xs := h.bytes
                            refine hg_take 14 (by rfl) (want_t (dj := 111) (by rfl) (by kernel_rfl) rfl) (by rfl) rfl (by decide) (by kernel_rfl) (by kernel_rfl) (by kernel_rfl) (fun _ _ _ h => h) (Below.refl _ _) (fun q hq => y_strS (h.below (hq.mono (by omega))) rfl rfl) ?_
                            refine hg_take 15 (by rfl) (want_t (dj := 111) (by rfl) (by kernel_rfl) rfl) (by rfl) rfl (by decide) (by kernel_rfl) (by kernel_rfl) (by kernel_rfl) (fun _ _ _ h => h) (Below.refl _ _) (fun q hq => y_move rfl rfl) ?_
                            have h2 := h2.below (dW44.mono (by omega))
                            have by91 : Bytes ys := h2.bytes
                            refine hg_take 16 (by rfl) (want_t (dj := 111) (by rfl) (by kernel_rfl) rfl) (by rfl) rfl (by decide) (by kernel_rfl) (by kernel_rfl) (by kernel_rfl) (fun _ _ _ h => h) (Below.refl _ _) (fun q hq => y_strS (h2.below (hq.mono (by omega))) rfl rfl) ?_
                            by_cases c92 : xs = ys
                            · refine hg_take 17 (by rfl) (want_t (dj := 111) (by rfl) (by kernel_rfl) rfl) (by rfl) rfl (by decide) (by kernel_rfl) (by kernel_rfl) (by kernel_rfl) (fun _ _ _ h => h) (Below.refl _ _) (fun q hq => yb (decide_eq_true c92) (y_seqS (xs := xs) (ys := ys) by90 by91 rfl rfl rfl)) ?_
                              refine hg_take 18 (by rfl) (want_t (dj := 111) (by rfl) (by kernel_rfl) rfl) (by rfl) rfl (by decide) (by kernel_rfl) (by kernel_rfl) (by kernel_rfl) (fun _ _ _ h => h) (Below.refl _ _) (fun q hq => y_move rfl rfl) ?_
                              cases b19
                              · have q19 := of_decide_eq_false hb19.symm
                                refine hg_take 19 (by rfl) (want_t (dj := 118) (by rfl) (by kernel_rfl) rfl) (by rfl) rfl (by decide) (by kernel_rfl) (by kernel_rfl) (by kernel_rfl) (fun _ _ _ h => h) (Below.refl _ _) (fun q hq => y_move rfl rfl) ?_
                                refine hg_take 20 (by rfl) (want_t (dj := 111) (by rfl) (by kernel_rfl) rfl) (by rfl) rfl (by decide) (by kernel_rfl) (by kernel_rfl) (by kernel_rfl) (fun _ _ _ h => h) (Below.refl _ _) (fun q hq => y_pick true rfl rfl rfl) ?_
                                refine hg_take 21 (by rfl) (want_t (dj := 111) (by rfl) (by kernel_rfl) rfl) (by rfl) rfl (by decide) (by kernel_rfl) (by kernel_rfl) (by kernel_rfl) (fun _ _ _ h => h) (Below.refl _ _) (fun q hq => yb (b := (false == false)) (show (false == false) = true from rfl) (y_beq (a := false) (b := false) hubo rfl rfl rfl)) ?_
                                refine hg_take 22 (by rfl) (want_none (by rfl)) (by rfl) rfl (by decide) (by kernel_rfl) (by kernel_rfl) (by kernel_rfl) (fun _ _ _ h => h) (Below.refl _ _) (fun q hq => y_pick true rfl rfl rfl) ?_
                                refine hg_take 23 (by rfl) (want_none (by rfl)) (by rfl) rfl (by decide) (by kernel_rfl) (by kernel_rfl) (by kernel_rfl) (fun _ _ _ h => h) (Below.refl _ _) (fun q hq => y_move rfl rfl) ?_
                                refine hg_take 24 (by rfl) (want_t (dj := 123) (by rfl) (by kernel_rfl) rfl) (by rfl) rfl (by decide) (by kernel_rfl) (by kernel_rfl) (by kernel_rfl) (fun _ _ _ h => h) (Below.refl _ _) (fun q hq => y_move rfl rfl) ?_
                                have r1 := RowAt.below dW44 r1.lt r1
                                refine hg_take 25 (by rfl) (want_t (dj := 123) (by rfl) (by kernel_rfl) rfl) (by rfl) rfl (by decide) (by kernel_rfl) (by kernel_rfl) (by kernel_rfl) (fun _ _ _ h => h) (Below.refl _ _) (fun q hq => y_loadA (RowAt.below hq r1.lt r1) (by kernel_rfl) (by kernel_rfl) rfl rfl) ?_
                                refine hg_take 28 (by rfl) (want_t (dj := 123) (by rfl) (by kernel_rfl) rfl) (by rfl) rfl (by decide) (by kernel_rfl) (by kernel_rfl) (by kernel_rfl) (fun _ _ _ h => h) (Below.refl _ _) (fun q hq => y_loadA (RowAt.below hq r1.lt r1) (by kernel_rfl) (by kernel_rfl) rfl rfl) ?_
                                refine hg_take 29 (by rfl) (want_t (dj := 123) (by rfl) (by kernel_rfl) rfl) (by rfl) rfl (by decide) (by kernel_rfl) (by kernel_rfl) (by kernel_rfl) (fun _ _ _ h => h) (Below.refl _ _) (fun q hq => y_move rfl rfl) ?_
                                refine hg_take 30 (by rfl) (want_t (dj := 123) (by rfl) (by kernel_rfl) rfl) (by rfl) rfl (by decide) (by kernel_rfl) (by kernel_rfl) (by kernel_rfl) (fun _ _ _ h => h) (Below.refl _ _) (fun q hq => y_move rfl rfl) ?_
                                have hl := hl.below (dW44.mono (by omega))
                                refine hg_one 26 (by rfl) (by kernel_rfl) (want_t (dj := 123) (by rfl) (by kernel_rfl) rfl) ?_
                                refine lg_callw (want_t (dj := 123) (by rfl) (by kernel_rfl) rfl) (ofLeafN_any (maskK i 65535 : Int) (hl.more (B' := W44.heap.size) (by omega)) (Nat.le_refl _)) (by kernel_rfl) rfl rfl rfl (by decide) ?_
                                rintro _ w93 ⟨r93, rfl, m93, hw93⟩
                                have zw93 := hw93.size
                                have lp93 := ofLeafO_le (maskK i 65535 : Int) L
                                refine hg_next hw93 ?_
                                refine hg_up hw93 ?_
                                have by94 : Bytes (ofLeafO (maskK i 65535 : Int) L) := m93.bytes
                                refine hg_take 27 (by rfl) (want_t (dj := 123) (by rfl) (by kernel_rfl) rfl) (by rfl) rfl (by decide) (by kernel_rfl) (by kernel_rfl) (by kernel_rfl) (fun _ _ _ h => h) (Below.refl _ _) (fun q hq => y_strS (m93.below (hq.mono (by omega))) rfl rfl) ?_
                                have hl := hl.below (hw93.mono (by omega))
                                have h := h.below (hw93.mono (by omega))
                                have h2 := h2.below (hw93.mono (by omega))
                                refine hg_one 31 (by rfl) (by kernel_rfl) (want_t (dj := 123) (by rfl) (by kernel_rfl) rfl) ?_
                                refine lg_callw (want_t (dj := 123) (by rfl) (by kernel_rfl) rfl) (ofInnerN_any (hl.more (B' := w93.heap.size) (by omega)) (h.more (B' := w93.heap.size) (by omega)) (h2.more (B' := w93.heap.size) (by omega)) (Nat.le_refl _) (by first | omega | (simp only [List.length_append, List.length_cons, List.length_nil, numOct_length, flagOct_length]; omega)) (by first | omega | (simp only [List.length_append, List.length_cons, List.length_nil, numOct_length, flagOct_length]; omega))) (by kernel_rfl) rfl rfl rfl (by decide) ?_
                                rintro _ w95 ⟨r95, rfl, m95, hw95⟩
                                have zw95 := hw95.size
                                have lp95 := ofInnerO_le L xs ys
                                refine hg_next hw95 ?_
                                refine hg_up hw95 ?_
                                have by96 : Bytes (ofInnerO L xs ys) := m95.bytes
                                refine hg_take 32 (by rfl) (want_t (dj := 123) (by rfl) (by kernel_rfl) rfl) (by rfl) rfl (by decide) (by kernel_rfl) (by kernel_rfl) (by kernel_rfl) (fun _ _ _ h => h) (Below.refl _ _) (fun q hq => y_strS (m95.below (hq.mono (by omega))) rfl rfl) ?_
                                refine hg_take 33 (by rfl) (want_t (dj := 123) (by rfl) (by kernel_rfl) rfl) (by rfl) rfl (by decide) (by kernel_rfl) (by kernel_rfl) (by kernel_rfl) (fun _ _ _ h => h) (Below.refl _ _) (fun q hq => yb (nd_t (show ¬ ((ofLeafO (maskK i 65535 : Int) L) = (ofInnerO L xs ys)) from (leaf_inner _ _ _ _ _))) (y_sneS (xs := (ofLeafO (maskK i 65535 : Int) L)) (ys := (ofInnerO L xs ys)) by94 by96 rfl rfl rfl)) ?_
                                refine hg_take 34 (by rfl) (want_none (by rfl)) (by rfl) rfl (by decide) (by kernel_rfl) (by kernel_rfl) (by kernel_rfl) (fun _ _ _ h => h) (Below.refl _ _) (fun q hq => y_pick true rfl rfl rfl) ?_
                                refine hg_take 35 (by rfl) (want_none (by rfl)) (by rfl) rfl (by decide) (by kernel_rfl) (by kernel_rfl) (by kernel_rfl) (fun _ _ _ h => h) (Below.refl _ _) (fun q hq => y_assign rfl rfl) ?_
                                refine hg_done (by kernel_rfl) ?_
                                refine nx (E' := [(12, _)]) (fk rfl fn) ?_
                                refine cg_ret ?_
                                have u := u.trans (dW44.mono u.size)
                                have u := u.trans (hw93.mono u.size)
                                have u := u.trans (hw95.mono u.size)
                                exact eg_ret_tmp rfl rfl ⟨_, rfl, rfl, u⟩
                              · have q19 := of_decide_eq_true hb19.symm
                                exact absurd (inner_of c11 c13 q19 c92) c83
                            · refine hg_take 17 (by rfl) (want_t (dj := 111) (by rfl) (by kernel_rfl) rfl) (by rfl) rfl (by decide) (by kernel_rfl) (by kernel_rfl) (by kernel_rfl) (fun _ _ _ h => h) (Below.refl _ _) (fun q hq => yb (decide_eq_false c92) (y_seqS (xs := xs) (ys := ys) by90 by91 rfl rfl rfl)) ?_
                              refine hg_take 18 (by rfl) (want_t (dj := 111) (by rfl) (by kernel_rfl) rfl) (by rfl) rfl (by decide) (by kernel_rfl) (by kernel_rfl) (by kernel_rfl) (fun _ _ _ h => h) (Below.refl _ _) (fun q hq => y_move rfl rfl) ?_
                              refine hg_skip 19 (by rfl) (want_f (dj := 118) (by rfl) (by kernel_rfl) rfl) rfl (by decide) (by kernel_rfl) (by kernel_rfl) (by kernel_rfl) (fun _ _ _ h => h) (Below.refl _ _) ?_
                              refine hg_take 20 (by rfl) (want_t (dj := 111) (by rfl) (by kernel_rfl) rfl) (by rfl) rfl (by decide) (by kernel_rfl) (by kernel_rfl) (by kernel_rfl) (fun _ _ _ h => h) (Below.refl _ _) (fun q hq => y_pick false rfl rfl rfl) ?_
                              refine hg_take 21 (by rfl) (want_t (dj := 111) (by rfl) (by kernel_rfl) rfl) (by rfl) rfl (by decide) (by kernel_rfl) (by kernel_rfl) (by kernel_rfl) (fun _ _ _ h => h) (Below.refl _ _) (fun q hq => yb (b := (false == false)) (show (false == false) = true from rfl) (y_beq (a := false) (b := false) hubo rfl rfl rfl)) ?_
                              refine hg_take 22 (by rfl) (want_none (by rfl)) (by rfl) rfl (by decide) (by kernel_rfl) (by kernel_rfl) (by kernel_rfl) (fun _ _ _ h => h) (Below.refl _ _) (fun q hq => y_pick true rfl rfl rfl) ?_
                              refine hg_take 23 (by rfl) (want_none (by rfl)) (by rfl) rfl (by decide) (by kernel_rfl) (by kernel_rfl) (by kernel_rfl) (fun _ _ _ h => h) (Below.refl _ _) (fun q hq => y_move rfl rfl) ?_
                              refine hg_take 24 (by rfl) (want_t (dj := 123) (by rfl) (by kernel_rfl) rfl) (by rfl) rfl (by decide) (by kernel_rfl) (by kernel_rfl) (by kernel_rfl) (fun _ _ _ h => h) (Below.refl _ _) (fun q hq => y_move rfl rfl) ?_
                              have r1 := RowAt.below dW44 r1.lt r1
                              refine hg_take 25 (by rfl) (want_t (dj := 123) (by rfl) (by kernel_rfl) rfl) (by rfl) rfl (by decide) (by kernel_rfl) (by kernel_rfl) (by kernel_rfl) (fun _ _ _ h => h) (Below.refl _ _) (fun q hq => y_loadA (RowAt.below hq r1.lt r1) (by kernel_rfl) (by kernel_rfl) rfl rfl) ?_
                              refine hg_take 28 (by rfl) (want_t (dj := 123) (by rfl) (by kernel_rfl) rfl) (by rfl) rfl (by decide) (by kernel_rfl) (by kernel_rfl) (by kernel_rfl) (fun _ _ _ h => h) (Below.refl _ _) (fun q hq => y_loadA (RowAt.below hq r1.lt r1) (by kernel_rfl) (by kernel_rfl) rfl rfl) ?_
                              refine hg_take 29 (by rfl) (want_t (dj := 123) (by rfl) (by kernel_rfl) rfl) (by rfl) rfl (by decide) (by kernel_rfl) (by kernel_rfl) (by kernel_rfl) (fun _ _ _ h => h) (Below.refl _ _) (fun q hq => y_move rfl rfl) ?_
                              refine hg_take 30 (by rfl) (want_t (dj := 123) (by rfl) (by kernel_rfl) rfl) (by rfl) rfl (by decide) (by kernel_rfl) (by kernel_rfl) (by kernel_rfl) (fun _ _ _ h => h) (Below.refl _ _) (fun q hq => y_move rfl rfl) ?_
                              have hl := hl.below (dW44.mono (by omega))
                              refine hg_one 26 (by rfl) (by kernel_rfl) (want_t (dj := 123) (by rfl) (by kernel_rfl) rfl) ?_
                              refine lg_callw (want_t (dj := 123) (by rfl) (by kernel_rfl) rfl) (ofLeafN_any (maskK i 65535 : Int) (hl.more (B' := W44.heap.size) (by omega)) (Nat.le_refl _)) (by kernel_rfl) rfl rfl rfl (by decide) ?_
                              rintro _ w97 ⟨r97, rfl, m97, hw97⟩
                              have zw97 := hw97.size
                              have lp97 := ofLeafO_le (maskK i 65535 : Int) L
                              refine hg_next hw97 ?_
                              refine hg_up hw97 ?_
                              have by98 : Bytes (ofLeafO (maskK i 65535 : Int) L) := m97.bytes
                              refine hg_take 27 (by rfl) (want_t (dj := 123) (by rfl) (by kernel_rfl) rfl) (by rfl) rfl (by decide) (by kernel_rfl) (by kernel_rfl) (by kernel_rfl) (fun _ _ _ h => h) (Below.refl _ _) (fun q hq => y_strS (m97.below (hq.mono (by omega))) rfl rfl) ?_
                              have hl := hl.below (hw97.mono (by omega))
                              have h := h.below (hw97.mono (by omega))
                              have h2 := h2.below (hw97.mono (by omega))
                              refine hg_one 31 (by rfl) (by kernel_rfl) (want_t (dj := 123) (by rfl) (by kernel_rfl) rfl) ?_
                              refine lg_callw (want_t (dj := 123) (by rfl) (by kernel_rfl) rfl) (ofInnerN_any (hl.more (B' := w97.heap.size) (by omega)) (h.more (B' := w97.heap.size) (by omega)) (h2.more (B' := w97.heap.size) (by omega)) (Nat.le_refl _) (by first | omega | (simp only [List.length_append, List.length_cons, List.length_nil, numOct_length, flagOct_length]; omega)) (by first | omega | (simp only [List.length_append, List.length_cons, List.length_nil, numOct_length, flagOct_length]; omega))) (by kernel_rfl) rfl rfl rfl (by decide) ?_
                              rintro _ w99 ⟨r99, rfl, m99, hw99⟩
                              have zw99 := hw99.size
                              have lp99 := ofInnerO_le L xs ys
                              refine hg_next hw99 ?_
                              refine hg_up hw99 ?_
                              have by100 : Bytes (ofInnerO L xs ys) := m99.bytes
                              refine hg_take 32 (by rfl) (want_t (dj := 123) (by rfl) (by kernel_rfl) rfl) (by rfl) rfl (by decide) (by kernel_rfl) (by kernel_rfl) (by kernel_rfl) (fun _ _ _ h => h) (Below.refl _ _) (fun q hq => y_strS (m99.below (hq.mono (by omega))) rfl rfl) ?_
                              refine hg_take 33 (by rfl) (want_t (dj := 123) (by rfl) (by kernel_rfl) rfl) (by rfl) rfl (by decide) (by kernel_rfl) (by kernel_rfl) (by kernel_rfl) (fun _ _ _ h => h) (Below.refl _ _) (fun q hq => yb (nd_t (show ¬ ((ofLeafO (maskK i 65535 : Int) L) = (ofInnerO L xs ys)) from (leaf_inner _ _ _ _ _))) (y_sneS (xs := (ofLeafO (maskK i 65535 : Int) L)) (ys := (ofInnerO L xs ys)) by98 by100 rfl rfl rfl)) ?_
                              refine hg_take 34 (by rfl) (want_none (by rfl)) (by rfl) rfl (by decide) (by kernel_rfl) (by kernel_rfl) (by kernel_rfl) (fun _ _ _ h => h) (Below.refl _ _) (fun q hq => y_pick true rfl rfl rfl) ?_
                              refine hg_take 35 (by rfl) (want_none (by rfl)) (by rfl) rfl (by decide) (by kernel_rfl) (by kernel_rfl) (by kernel_rfl) (fun _ _ _ h => h) (Below.refl _ _) (fun q hq => y_assign rfl rfl) ?_
                              refine hg_done (by kernel_rfl) ?_
                              refine nx (E' := [(12, _)]) (fk rfl fn) ?_
                              refine cg_ret ?_
                              have u := u.trans (dW44.mono u.size)
                              have u := u.trans (hw97.mono u.size)
                              have u := u.trans (hw99.mono u.size)
                              exact eg_ret_tmp rfl rfl ⟨_, rfl, rfl, u⟩
            · refine lsw (want_t (dj := 44) (by rfl) (by kernel_rfl) rfl) (yb (nd_t c13) (yi_neq rfl rfl rfl)) rfl (by decide) ?_
              refine lsw (want_none (by rfl)) (y_pick false rfl rfl rfl) rfl (by decide) ?_
              refine lg_nil ?_
              refine nx (E' := [(2, _), (3, _), (4, _), (5, _), (6, _), (7, _), (12, _), (13, _), (48, _)]) (fk rfl (fk rfl (fk rfl (fk rfl (fk rfl (fk rfl (fk rfl (fk rfl (fk rfl fn))))))))) ?_
              refine cg_ct rfl ?_
              refine cg_seq ?_
              refine cg_region ?_
              refine lsw (want_none (by rfl)) (y_move rfl rfl) rfl (by decide) ?_
              refine lsw (want_none (by rfl)) (y_assign rfl rfl) rfl (by decide) ?_
              refine lg_nil ?_
              refine nx (E' := [(2, _), (3, _), (4, _), (5, _), (6, _), (7, _), (13, _), (12, _)]) (fk rfl (fk rfl (fk rfl (fk rfl (fk rfl (fk rfl (fk rfl (fk rfl fn)))))))) ?_
              refine cg_ret ?_
              refine eg_seq_ret ?_
              have u := u.trans (n1.below.mono u.size)
              have u := u.trans (n2.below.mono u.size)
              have u := u.trans (hw3.mono u.size)
              have u := u.trans (hw5.mono u.size)
              have u := u.trans (hw7.mono u.size)
              have u := u.trans (hw10.mono u.size)
              have u := u.trans (hw12.mono u.size)
              exact eg_ret_tmp rfl rfl ⟨_, rfl, rfl, u⟩
          · refine lsw (want_t (dj := 39) (by rfl) (by kernel_rfl) rfl) (yb (nd_t c11) (yi_neq rfl rfl rfl)) rfl (by decide) ?_
            refine lsw (want_none (by rfl)) (y_pick false rfl rfl rfl) rfl (by decide) ?_
            refine lsw (want_none (by rfl)) (y_move rfl rfl) rfl (by decide) ?_
            refine lsk (want_f (dj := 44) (by rfl) (by kernel_rfl) rfl) rfl (by decide) ?_
            refine lsk (want_f (dj := 44) (by rfl) (by kernel_rfl) rfl) rfl (by decide) ?_
            refine lsk (want_f (dj := 44) (by rfl) (by kernel_rfl) rfl) rfl (by decide) ?_
            refine lsw (want_none (by rfl)) (y_pick true rfl rfl rfl) rfl (by decide) ?_
            refine lg_nil ?_
            refine nx (E' := [(2, _), (3, _), (4, _), (5, _), (6, _), (7, _), (12, _), (13, _), (48, _)]) (fk rfl (fk rfl (fk rfl (fk rfl (fk rfl (fk rfl (fk rfl (fk rfl (fk rfl fn))))))))) ?_
            refine cg_ct rfl ?_
            refine cg_seq ?_
            refine cg_region ?_
            refine lsw (want_none (by rfl)) (y_move rfl rfl) rfl (by decide) ?_
            refine lsw (want_none (by rfl)) (y_assign rfl rfl) rfl (by decide) ?_
            refine lg_nil ?_
            refine nx (E' := [(2, _), (3, _), (4, _), (5, _), (6, _), (7, _), (13, _), (12, _)]) (fk rfl (fk rfl (fk rfl (fk rfl (fk rfl (fk rfl (fk rfl (fk rfl fn)))))))) ?_
            refine cg_ret ?_
            refine eg_seq_ret ?_
            have u := u.trans (n1.below.mono u.size)
            have u := u.trans (n2.below.mono u.size)
            have u := u.trans (hw3.mono u.size)
            have u := u.trans (hw5.mono u.size)
            have u := u.trans (hw7.mono u.size)
            have u := u.trans (hw10.mono u.size)
            exact eg_ret_tmp rfl rfl ⟨_, rfl, rfl, u⟩
    · refine lg_callw (want_t (dj := 24) (by rfl) (by kernel_rfl) rfl) (fewN_any (hm.more (B' := w5.heap.size) (by omega)) (Nat.le_refl _)) (by kernel_rfl) rfl rfl rfl (by decide) ?_
      rintro u101 w101 ⟨e101, hw101⟩
      have zw101 := hw101.size
      obtain rfl : u101 = .bool false := e101.trans (congrArg Value.bool (decide_eq_false c6))
      refine lsw (want_t (dj := 24) (by rfl) (by kernel_rfl) rfl) (y_bnot rfl rfl) rfl (by decide) ?_
      refine lsw (want_none (by rfl)) (y_pick false rfl rfl rfl) rfl (by decide) ?_
      refine lsw (want_none (by rfl)) (y_move rfl rfl) rfl (by decide) ?_
      refine lsk (want_f (dj := 29) (by rfl) (by kernel_rfl) rfl) rfl (by decide) ?_
      refine lsk (want_f (dj := 29) (by rfl) (by kernel_rfl) rfl) rfl (by decide) ?_
      refine lsk (want_f (dj := 29) (by rfl) (by kernel_rfl) rfl) rfl (by decide) ?_
      refine lsw (want_none (by rfl)) (y_pick true rfl rfl rfl) rfl (by decide) ?_
      refine lsw (want_none (by rfl)) (y_move rfl rfl) rfl (by decide) ?_
      refine lsk (want_f (dj := 34) (by rfl) (by kernel_rfl) rfl) rfl (by decide) ?_
      refine lsk (want_f (dj := 34) (by rfl) (by kernel_rfl) rfl) rfl (by decide) ?_
      refine lsk (want_f (dj := 34) (by rfl) (by kernel_rfl) rfl) rfl (by decide) ?_
      refine lsw (want_none (by rfl)) (y_pick true rfl rfl rfl) rfl (by decide) ?_
      refine lsw (want_none (by rfl)) (y_move rfl rfl) rfl (by decide) ?_
      refine lsk (want_f (dj := 39) (by rfl) (by kernel_rfl) rfl) rfl (by decide) ?_
      refine lsk (want_f (dj := 39) (by rfl) (by kernel_rfl) rfl) rfl (by decide) ?_
      refine lsk (want_f (dj := 39) (by rfl) (by kernel_rfl) rfl) rfl (by decide) ?_
      refine lsw (want_none (by rfl)) (y_pick true rfl rfl rfl) rfl (by decide) ?_
      refine lsw (want_none (by rfl)) (y_move rfl rfl) rfl (by decide) ?_
      refine lsk (want_f (dj := 44) (by rfl) (by kernel_rfl) rfl) rfl (by decide) ?_
      refine lsk (want_f (dj := 44) (by rfl) (by kernel_rfl) rfl) rfl (by decide) ?_
      refine lsk (want_f (dj := 44) (by rfl) (by kernel_rfl) rfl) rfl (by decide) ?_
      refine lsw (want_none (by rfl)) (y_pick true rfl rfl rfl) rfl (by decide) ?_
      refine lg_nil ?_
      refine nx (E' := [(2, _), (3, _), (4, _), (5, _), (6, _), (7, _), (12, _), (13, _), (48, _)]) (fk rfl (fk rfl (fk rfl (fk rfl (fk rfl (fk rfl (fk rfl (fk rfl (fk rfl fn))))))))) ?_
      refine cg_ct rfl ?_
      refine cg_seq ?_
      refine cg_region ?_
      refine lsw (want_none (by rfl)) (y_move rfl rfl) rfl (by decide) ?_
      refine lsw (want_none (by rfl)) (y_assign rfl rfl) rfl (by decide) ?_
      refine lg_nil ?_
      refine nx (E' := [(2, _), (3, _), (4, _), (5, _), (6, _), (7, _), (13, _), (12, _)]) (fk rfl (fk rfl (fk rfl (fk rfl (fk rfl (fk rfl (fk rfl (fk rfl fn)))))))) ?_
      refine cg_ret ?_
      refine eg_seq_ret ?_
      have u := u.trans (n1.below.mono u.size)
      have u := u.trans (n2.below.mono u.size)
      have u := u.trans (hw3.mono u.size)
      have u := u.trans (hw5.mono u.size)
      have u := u.trans (hw101.mono u.size)
      exact eg_ret_tmp rfl rfl ⟨_, rfl, rfl, u⟩
  · refine lg_callw (want_none (by rfl)) (fewN_any (hl.more (B' := w3.heap.size) (by omega)) (Nat.le_refl _)) (by kernel_rfl) rfl rfl rfl (by decide) ?_
    rintro u102 w102 ⟨e102, hw102⟩
    have zw102 := hw102.size
    obtain rfl : u102 = .bool false := e102.trans (congrArg Value.bool (decide_eq_false c4))
    refine lsw (want_none (by rfl)) (y_bnot rfl rfl) rfl (by decide) ?_
    refine lsw (want_none (by rfl)) (y_move rfl rfl) rfl (by decide) ?_
    refine lsk (want_f (dj := 24) (by rfl) (by kernel_rfl) rfl) rfl (by decide) ?_
    refine lsk (want_f (dj := 24) (by rfl) (by kernel_rfl) rfl) rfl (by decide) ?_
    refine lsk (want_f (dj := 24) (by rfl) (by kernel_rfl) rfl) rfl (by decide) ?_
    refine lsw (want_none (by rfl)) (y_pick true rfl rfl rfl) rfl (by decide) ?_
    refine lsw (want_none (by rfl)) (y_move rfl rfl) rfl (by decide) ?_
    refine lsk (want_f (dj := 29) (by rfl) (by kernel_rfl) rfl) rfl (by decide) ?_
    refine lsk (want_f (dj := 29) (by rfl) (by kernel_rfl) rfl) rfl (by decide) ?_
    refine lsk (want_f (dj := 29) (by rfl) (by kernel_rfl) rfl) rfl (by decide) ?_
    refine lsw (want_none (by rfl)) (y_pick true rfl rfl rfl) rfl (by decide) ?_
    refine lsw (want_none (by rfl)) (y_move rfl rfl) rfl (by decide) ?_
    refine lsk (want_f (dj := 34) (by rfl) (by kernel_rfl) rfl) rfl (by decide) ?_
    refine lsk (want_f (dj := 34) (by rfl) (by kernel_rfl) rfl) rfl (by decide) ?_
    refine lsk (want_f (dj := 34) (by rfl) (by kernel_rfl) rfl) rfl (by decide) ?_
    refine lsw (want_none (by rfl)) (y_pick true rfl rfl rfl) rfl (by decide) ?_
    refine lsw (want_none (by rfl)) (y_move rfl rfl) rfl (by decide) ?_
    refine lsk (want_f (dj := 39) (by rfl) (by kernel_rfl) rfl) rfl (by decide) ?_
    refine lsk (want_f (dj := 39) (by rfl) (by kernel_rfl) rfl) rfl (by decide) ?_
    refine lsk (want_f (dj := 39) (by rfl) (by kernel_rfl) rfl) rfl (by decide) ?_
    refine lsw (want_none (by rfl)) (y_pick true rfl rfl rfl) rfl (by decide) ?_
    refine lsw (want_none (by rfl)) (y_move rfl rfl) rfl (by decide) ?_
    refine lsk (want_f (dj := 44) (by rfl) (by kernel_rfl) rfl) rfl (by decide) ?_
    refine lsk (want_f (dj := 44) (by rfl) (by kernel_rfl) rfl) rfl (by decide) ?_
    refine lsk (want_f (dj := 44) (by rfl) (by kernel_rfl) rfl) rfl (by decide) ?_
    refine lsw (want_none (by rfl)) (y_pick true rfl rfl rfl) rfl (by decide) ?_
    refine lg_nil ?_
    refine nx (E' := [(2, _), (3, _), (4, _), (5, _), (6, _), (7, _), (12, _), (13, _), (48, _)]) (fk rfl (fk rfl (fk rfl (fk rfl (fk rfl (fk rfl (fk rfl (fk rfl (fk rfl fn))))))))) ?_
    refine cg_ct rfl ?_
    refine cg_seq ?_
    refine cg_region ?_
    refine lsw (want_none (by rfl)) (y_move rfl rfl) rfl (by decide) ?_
    refine lsw (want_none (by rfl)) (y_assign rfl rfl) rfl (by decide) ?_
    refine lg_nil ?_
    refine nx (E' := [(2, _), (3, _), (4, _), (5, _), (6, _), (7, _), (13, _), (12, _)]) (fk rfl (fk rfl (fk rfl (fk rfl (fk rfl (fk rfl (fk rfl (fk rfl fn)))))))) ?_
    refine cg_ret ?_
    refine eg_seq_ret ?_
    have u := u.trans (n1.below.mono u.size)
    have u := u.trans (n2.below.mono u.size)
    have u := u.trans (hw3.mono u.size)
    have u := u.trans (hw102.mono u.size)
    exact eg_ret_tmp rfl rfl ⟨_, rfl, rfl, u⟩
end Go.Proofs.Ytpmakacjhoemeaa
