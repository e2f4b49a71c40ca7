/-
  Of any nodes, octets and number the answers are the document's.
-/
import Derived.Test.YtpmakacjhoemeaaNdAwake
import Derived.Test.YtpmakacjhoemeaaNdRef
namespace Go.Proofs.Ytpmakacjhoemeaa
open Go.ChangeShapes Go.WideShapes Go.ChangeAt Go.RowKit
set_option linter.unusedVariables false

set_option maxHeartbeats 4000000 in
theorem nodeIs_any {W : World} {l : NdV} {L : Nd} (hl : IsNd W W.heap.size l L) {m : NdV} {M : Nd} (hm : IsNd W W.heap.size m M) {s : SlV} {xs : List Int} (h : Sl W W.heap.size s xs) {t : SlV} {ys : List Int} (h2 : Sl W W.heap.size t ys) (i : Int) (smL : ndFew L → L.inner.enc.length + L.inner.hash.length + L.inner.unm.length ≤ 600) : Calls Try.prog 3 #[.agg (l.cs L), .agg (m.cs M), s.v, t.v, nv i] W fun e W' => ∃ v, e = .returned v ∧ v = .bool true ∧ Below W.heap.size W W' := by
  refine calls_cg (n := 131) Try.func3 rfl Try.ntmps3 (by simp) ?_
  show CG _ _ _ [(0, .agg (l.cs L)), (1, .agg (m.cs M)), (2, s.v), (3, t.v), (4, nv i)] _ _
  have u := Below.refl W.heap.size W
  refine cg_seq ?_
  refine cg_region ?_
  refine lg_boxw (want_none (by rfl)) rfl rfl (by kernel_rfl) rfl (by decide) fun b1 w1 n1 => ?_
  have r1 := n1.row
  have k1 := n1.blk
  have z1 := n1.size
  have lt1 : b1 < w1.heap.size := by omega
  refine lg_boxw (want_none (by rfl)) rfl rfl (by kernel_rfl) rfl (by decide) fun b2 w2 n2 => ?_
  have r2 := n2.row
  have k2 := n2.blk
  have z2 := n2.size
  have lt2 : b2 < w2.heap.size := by omega
  refine lsw (want_none (by rfl)) (y_assign rfl rfl) rfl (by decide) ?_
  refine lg_nil ?_
  refine nx (E' := [(2, _), (3, _), (4, _), (5, _), (6, _), (10, _)]) (fk rfl (fk rfl (fk rfl (fk rfl (fk rfl (fk rfl fn)))))) ?_
  refine cg_seq ?_
  refine cg_region ?_
  refine lg_callw (want_none (by rfl)) (awakeN_any _) (by kernel_rfl) rfl rfl rfl (by decide) ?_
  rintro _ w3 ⟨rfl, hw3⟩
  have zw3 := hw3.size
  refine lsw (want_none (by rfl)) (y_assign rfl rfl) rfl (by decide) ?_
  refine lg_nil ?_
  refine nx (E' := [(2, _), (3, _), (4, _), (5, _), (6, _), (10, _), (11, _)]) (fk rfl (fk rfl (fk rfl (fk rfl (fk rfl (fk rfl (fk rfl fn))))))) ?_
  refine cg_seq ?_
  refine cg_seq ?_
  refine cg_region ?_
  have r1 := n2.keep r1
  have r1 := RowAt.below hw3 r1.lt r1
  refine lsw (want_none (by rfl)) (y_loadA r1 (by kernel_rfl) (by kernel_rfl) rfl rfl) rfl (by decide) ?_
  have hl := hl.below (n1.below.mono (by omega))
  have hl := hl.below (n2.below.mono (by omega))
  have hl := hl.below (hw3.mono (by omega))
  by_cases c4 : ndFew L
  · have fl := smL c4
    refine lg_callw (want_none (by rfl)) (fewN_any (hl.more (B' := w3.heap.size) (by omega)) (Nat.le_refl _)) (by kernel_rfl) rfl rfl rfl (by decide) ?_
    rintro u5 w5 ⟨e5, hw5⟩
    have zw5 := hw5.size
    obtain rfl : u5 = .bool true := e5.trans (congrArg Value.bool (decide_eq_true c4))
    refine lsw (want_none (by rfl)) (y_bnot rfl rfl) rfl (by decide) ?_
    refine lsw (want_none (by rfl)) (y_move rfl rfl) rfl (by decide) ?_
    have r2 := RowAt.below hw3 r2.lt r2
    have r2 := RowAt.below hw5 r2.lt r2
    refine lsw (want_t (dj := 22) (by rfl) (by kernel_rfl) rfl) (y_loadA r2 (by kernel_rfl) (by kernel_rfl) rfl rfl) rfl (by decide) ?_
    have hm := hm.below (n1.below.mono (by omega))
    have hm := hm.below (n2.below.mono (by omega))
    have hm := hm.below (hw3.mono (by omega))
    have hm := hm.below (hw5.mono (by omega))
    by_cases c6 : ndFew M
    · refine lg_callw (want_t (dj := 22) (by rfl) (by kernel_rfl) rfl) (fewN_any (hm.more (B' := w5.heap.size) (by omega)) (Nat.le_refl _)) (by kernel_rfl) rfl rfl rfl (by decide) ?_
      rintro u7 w7 ⟨e7, hw7⟩
      have zw7 := hw7.size
      obtain rfl : u7 = .bool true := e7.trans (congrArg Value.bool (decide_eq_true c6))
      refine lsw (want_t (dj := 22) (by rfl) (by kernel_rfl) rfl) (y_bnot rfl rfl) rfl (by decide) ?_
      refine lsw (want_none (by rfl)) (y_pick false rfl rfl rfl) rfl (by decide) ?_
      refine lsw (want_none (by rfl)) (y_move rfl rfl) rfl (by decide) ?_
      refine lsw (want_t (dj := 27) (by rfl) (by kernel_rfl) rfl) (y_move rfl rfl) rfl (by decide) ?_
      have h := h.below (n1.below.mono (by omega))
      have h := h.below (n2.below.mono (by omega))
      have h := h.below (hw3.mono (by omega))
      have h := h.below (hw5.mono (by omega))
      have h := h.below (hw7.mono (by omega))
      refine lsw (want_t (dj := 27) (by rfl) (by kernel_rfl) rfl) (y_lenS (el := 5) h (by kernel_rfl) rfl rfl) rfl (by decide) ?_
      by_cases c8 : 1000 < (xs.length : Int)
      · refine lsw (want_t (dj := 27) (by rfl) (by kernel_rfl) rfl) (yb (decide_eq_true c8) (yi_gtr rfl rfl rfl)) rfl (by decide) ?_
        refine lsw (want_none (by rfl)) (y_pick false rfl rfl rfl) rfl (by decide) ?_
        refine lsw (want_none (by rfl)) (y_move rfl rfl) rfl (by decide) ?_
        refine lsk (want_f (dj := 32) (by rfl) (by kernel_rfl) rfl) rfl (by decide) ?_
        refine lsk (want_f (dj := 32) (by rfl) (by kernel_rfl) rfl) rfl (by decide) ?_
        refine lsk (want_f (dj := 32) (by rfl) (by kernel_rfl) rfl) rfl (by decide) ?_
        refine lsw (want_none (by rfl)) (y_pick true rfl rfl rfl) rfl (by decide) ?_
        refine lg_nil ?_
        refine nx (E' := [(2, _), (3, _), (4, _), (5, _), (6, _), (10, _), (11, _), (36, _)]) (fk rfl (fk rfl (fk rfl (fk rfl (fk rfl (fk rfl (fk rfl (fk rfl fn)))))))) ?_
        refine cg_ct rfl ?_
        refine cg_seq ?_
        refine cg_region ?_
        refine lsw (want_none (by rfl)) (y_move rfl rfl) rfl (by decide) ?_
        refine lsw (want_none (by rfl)) (y_assign rfl rfl) rfl (by decide) ?_
        refine lg_nil ?_
        refine nx (E' := [(2, _), (3, _), (4, _), (5, _), (6, _), (11, _), (10, _)]) (fk rfl (fk rfl (fk rfl (fk rfl (fk rfl (fk rfl (fk rfl fn))))))) ?_
        refine cg_ret ?_
        refine eg_seq_ret ?_
        have u := u.trans (n1.below.mono u.size)
        have u := u.trans (n2.below.mono u.size)
        have u := u.trans (hw3.mono u.size)
        have u := u.trans (hw5.mono u.size)
        have u := u.trans (hw7.mono u.size)
        exact eg_ret_tmp rfl rfl ⟨_, rfl, rfl, u⟩
      · refine lsw (want_t (dj := 27) (by rfl) (by kernel_rfl) rfl) (yb (decide_eq_false c8) (yi_gtr rfl rfl rfl)) rfl (by decide) ?_
        refine lsw (want_none (by rfl)) (y_pick false rfl rfl rfl) rfl (by decide) ?_
        refine lsw (want_none (by rfl)) (y_move rfl rfl) rfl (by decide) ?_
        refine lsw (want_t (dj := 32) (by rfl) (by kernel_rfl) rfl) (y_move rfl rfl) rfl (by decide) ?_
        have h2 := h2.below (n1.below.mono (by omega))
        have h2 := h2.below (n2.below.mono (by omega))
        have h2 := h2.below (hw3.mono (by omega))
        have h2 := h2.below (hw5.mono (by omega))
        have h2 := h2.below (hw7.mono (by omega))
        refine lsw (want_t (dj := 32) (by rfl) (by kernel_rfl) rfl) (y_lenS (el := 5) h2 (by kernel_rfl) rfl rfl) rfl (by decide) ?_
        by_cases c9 : 1000 < (ys.length : Int)
        · refine lsw (want_t (dj := 32) (by rfl) (by kernel_rfl) rfl) (yb (decide_eq_true c9) (yi_gtr rfl rfl rfl)) rfl (by decide) ?_
          refine lsw (want_none (by rfl)) (y_pick false rfl rfl rfl) rfl (by decide) ?_
          refine lg_nil ?_
          refine nx (E' := [(2, _), (3, _), (4, _), (5, _), (6, _), (10, _), (11, _), (36, _)]) (fk rfl (fk rfl (fk rfl (fk rfl (fk rfl (fk rfl (fk rfl (fk rfl fn)))))))) ?_
          refine cg_ct rfl ?_
          refine cg_seq ?_
          refine cg_region ?_
          refine lsw (want_none (by rfl)) (y_move rfl rfl) rfl (by decide) ?_
          refine lsw (want_none (by rfl)) (y_assign rfl rfl) rfl (by decide) ?_
          refine lg_nil ?_
          refine nx (E' := [(2, _), (3, _), (4, _), (5, _), (6, _), (11, _), (10, _)]) (fk rfl (fk rfl (fk rfl (fk rfl (fk rfl (fk rfl (fk rfl fn))))))) ?_
          refine cg_ret ?_
          refine eg_seq_ret ?_
          have u := u.trans (n1.below.mono u.size)
          have u := u.trans (n2.below.mono u.size)
          have u := u.trans (hw3.mono u.size)
          have u := u.trans (hw5.mono u.size)
          have u := u.trans (hw7.mono u.size)
          exact eg_ret_tmp rfl rfl ⟨_, rfl, rfl, u⟩
        · refine lsw (want_t (dj := 32) (by rfl) (by kernel_rfl) rfl) (yb (decide_eq_false c9) (yi_gtr rfl rfl rfl)) rfl (by decide) ?_
          refine lsw (want_none (by rfl)) (y_pick false rfl rfl rfl) rfl (by decide) ?_
          refine lg_nil ?_
          refine nx (E' := [(2, _), (3, _), (4, _), (5, _), (6, _), (10, _), (11, _), (36, _)]) (fk rfl (fk rfl (fk rfl (fk rfl (fk rfl (fk rfl (fk rfl (fk rfl fn)))))))) ?_
          refine cg_cf rfl ?_
          refine cg_skip ?_
          refine nx (E' := [(2, _), (3, _), (4, _), (5, _), (6, _), (10, _), (11, _)]) (fk rfl (fk rfl (fk rfl (fk rfl (fk rfl (fk rfl (fk rfl fn))))))) ?_
          refine cg_seq ?_
          refine cg_region ?_
          refine lsw (want_none (by rfl)) (y_move rfl rfl) rfl (by decide) ?_
          refine lg_callw (want_none (by rfl)) (getN_any h (by omega)) (by kernel_rfl) rfl rfl rfl (by decide) ?_
          rintro _ w10 ⟨l10, r10, rfl, m10, n10, f10, hw10⟩
          have zw10 := hw10.size
          refine lsw (want_none (by rfl)) (y_move rfl rfl) rfl (by decide) ?_
          refine lsw (want_none (by rfl)) (y_extract rfl rfl rfl) rfl (by decide) ?_
          refine lsw (want_none (by rfl)) (y_extract rfl rfl rfl) rfl (by decide) ?_
          refine lsw (want_none (by rfl)) (y_extract rfl rfl rfl) rfl (by decide) ?_
          refine lg_allocw (cs := NdV.zero.cs Nd.zero) (want_none (by rfl)) rfl (by kernel_rfl) rfl (by decide) fun b11 w11 n11 => ?_
          have r11 := n11.row
          have k11 := n11.blk
          have z11 := n11.size
          have lt11 : b11 < w11.heap.size := by omega
          have o12 := r11
          refine lg_stw (want_none (by rfl)) r11 rfl rfl rfl (by kernel_rfl) (by kernel_rfl) rfl rfl fun w12 s12 => ?_
          have r11 := s12.row
          have z12 := s12.size
          refine lsw (want_none (by rfl)) (y_assign rfl rfl) rfl (by decide) ?_
          refine lsw (want_none (by rfl)) (y_assign rfl rfl) rfl (by decide) ?_
          refine lg_nil ?_
          refine nx (E' := [(2, _), (3, _), (4, _), (5, _), (6, _), (10, _), (11, _), (12, _), (13, _), (14, _)]) (fk rfl (fk rfl (fk rfl (fk rfl (fk rfl (fk rfl (fk rfl (fk rfl (fk rfl (fk rfl fn)))))))))) ?_
          refine cg_seq ?_
          refine cg_region ?_
          refine lsw (want_none (by rfl)) (y_move rfl rfl) rfl (by decide) ?_
          have h := h.below (hw10.mono (by omega))
          have h := h.below (n11.below.mono (by omega))
          have h := h.set o12 rfl s12
          refine lg_callw (want_none (by rfl)) (rgetN_any h (by omega)) (by kernel_rfl) rfl rfl rfl (by decide) ?_
          rintro _ w13 ⟨l13, r13, rfl, m13, n13, f13, hw13⟩
          have zw13 := hw13.size
          refine lsw (want_none (by rfl)) (y_move rfl rfl) rfl (by decide) ?_
          refine lsw (want_none (by rfl)) (y_extract rfl rfl rfl) rfl (by decide) ?_
          refine lsw (want_none (by rfl)) (y_extract rfl rfl rfl) rfl (by decide) ?_
          refine lsw (want_none (by rfl)) (y_extract rfl rfl rfl) rfl (by decide) ?_
          refine lg_allocw (cs := NdV.zero.cs Nd.zero) (want_none (by rfl)) rfl (by kernel_rfl) rfl (by decide) fun b14 w14 n14 => ?_
          have r14 := n14.row
          have k14 := n14.blk
          have z14 := n14.size
          have lt14 : b14 < w14.heap.size := by omega
          have o15 := r14
          refine lg_stw (want_none (by rfl)) r14 rfl rfl rfl (by kernel_rfl) (by kernel_rfl) rfl rfl fun w15 s15 => ?_
          have r14 := s15.row
          have z15 := s15.size
          refine lsw (want_none (by rfl)) (y_assign rfl rfl) rfl (by decide) ?_
          refine lsw (want_none (by rfl)) (y_assign rfl rfl) rfl (by decide) ?_
          refine lg_nil ?_
          refine nx (E' := [(2, _), (3, _), (4, _), (5, _), (6, _), (10, _), (11, _), (12, _), (13, _), (14, _), (15, _), (16, _), (17, _)]) (fk rfl (fk rfl (fk rfl (fk rfl (fk rfl (fk rfl (fk rfl (fk rfl (fk rfl (fk rfl (fk rfl (fk rfl (fk rfl fn))))))))))))) ?_
          refine cg_seq ?_
          refine cg_seq ?_
          refine cg_held (by kernel_rfl) fun W16 eW16 => ?_
          have dW16 := below_drew _ _ eW16
          have zW16 := size_drew _ _ eW16
          clear eW16
          have r11 := RowAt.below hw13 r11.lt r11
          have r11 := n14.keep r11
          have r11 := s15.keep r11 (by omega)
          have r11 := RowAt.below dW16 r11.lt r11
          refine hg_take 0 (by rfl) (want_none (by rfl)) (by rfl) rfl (by decide) (by kernel_rfl) (by kernel_rfl) (by kernel_rfl) (fun _ _ _ h => h) (Below.refl _ _) (fun q hq => y_loadA (RowAt.below hq r11.lt r11) (by kernel_rfl) (by kernel_rfl) rfl rfl) ?_
          have r14 := RowAt.below dW16 r14.lt r14
          refine hg_take 1 (by rfl) (want_none (by rfl)) (by rfl) rfl (by decide) (by kernel_rfl) (by kernel_rfl) (by kernel_rfl) (fun _ _ _ h => h) (Below.refl _ _) (fun q hq => y_loadA (RowAt.below hq r14.lt r14) (by kernel_rfl) (by kernel_rfl) rfl rfl) ?_
          have m10 := m10.below (n11.below.mono (by omega))
          have m10 := m10.below (s12.below _ (by omega))
          have m10 := m10.below (hw13.mono (by omega))
          have m10 := m10.below (n14.below.mono (by omega))
          have m10 := m10.below (s15.below _ (by omega))
          have m10 := m10.below (dW16.mono (by omega))
          have m13 := m13.below (n14.below.mono (by omega))
          have m13 := m13.below (s15.below _ (by omega))
          have m13 := m13.below (dW16.mono (by omega))
          refine hg_one 2 (by rfl) (by kernel_rfl) (want_none (by rfl)) ?_
          refine lg_callw (want_none (by rfl)) (rsameN_any (m10.more (B' := W16.heap.size) (by omega)) (m13.more (B' := W16.heap.size) (by omega)) (Nat.le_refl _)) (by kernel_rfl) rfl rfl rfl (by decide) ?_
          rintro u17 w17 ⟨e17, hw17⟩
          have zw17 := hw17.size
          obtain rfl : u17 = .bool true := e17.trans (congrArg Value.bool (decide_eq_true (show NdSame (ndGet xs).2.1 (ndGet xs).2.1 from (nd_same _))))
          refine hg_next hw17 ?_
          refine hg_up hw17 ?_
          refine hg_take 3 (by rfl) (want_none (by rfl)) (by rfl) rfl (by decide) (by kernel_rfl) (by kernel_rfl) (by kernel_rfl) (fun _ _ _ h => h) (Below.refl _ _) (fun q hq => y_bnot rfl rfl) ?_
          refine hg_take 4 (by rfl) (want_none (by rfl)) (by rfl) rfl (by decide) (by kernel_rfl) (by kernel_rfl) (by kernel_rfl) (fun _ _ _ h => h) (Below.refl _ _) (fun q hq => y_move rfl rfl) ?_
          refine hg_take 5 (by rfl) (want_t (dj := 54) (by rfl) (by kernel_rfl) rfl) (by rfl) rfl (by decide) (by kernel_rfl) (by kernel_rfl) (by kernel_rfl) (fun _ _ _ h => h) (Below.refl _ _) (fun q hq => y_move rfl rfl) ?_
          have n10 := n10.below (n11.below.mono (by omega))
          have n10 := n10.set o12 rfl s12
          have n10 := n10.below (hw13.mono (by omega))
          have n10 := n10.below (n14.below.mono (by omega))
          have n10 := n10.set o15 rfl s15
          have n10 := n10.below (dW16.mono (by omega))
          have n10 := n10.below (hw17.mono (by omega))
          have by18 : Bytes ((ndGet xs).2.2) := n10.bytes
          refine hg_take 6 (by rfl) (want_t (dj := 54) (by rfl) (by kernel_rfl) rfl) (by rfl) rfl (by decide) (by kernel_rfl) (by kernel_rfl) (by kernel_rfl) (fun _ _ _ h => h) (Below.refl _ _) (fun q hq => y_strS (n10.below (hq.mono (by omega))) rfl rfl) ?_
          refine hg_take 7 (by rfl) (want_t (dj := 54) (by rfl) (by kernel_rfl) rfl) (by rfl) rfl (by decide) (by kernel_rfl) (by kernel_rfl) (by kernel_rfl) (fun _ _ _ h => h) (Below.refl _ _) (fun q hq => y_move rfl rfl) ?_
          have n13 := n13.below (n14.below.mono (by omega))
          have n13 := n13.set o15 rfl s15
          have n13 := n13.below (dW16.mono (by omega))
          have n13 := n13.below (hw17.mono (by omega))
          have by19 : Bytes ((ndGet xs).2.2) := n13.bytes
          refine hg_take 8 (by rfl) (want_t (dj := 54) (by rfl) (by kernel_rfl) rfl) (by rfl) rfl (by decide) (by kernel_rfl) (by kernel_rfl) (by kernel_rfl) (fun _ _ _ h => h) (Below.refl _ _) (fun q hq => y_strS (n13.below (hq.mono (by omega))) rfl rfl) ?_
          refine hg_take 9 (by rfl) (want_t (dj := 54) (by rfl) (by kernel_rfl) rfl) (by rfl) rfl (by decide) (by kernel_rfl) (by kernel_rfl) (by kernel_rfl) (fun _ _ _ h => h) (Below.refl _ _) (fun q hq => yb (nd_f rfl) (y_sneS (xs := (ndGet xs).2.2) (ys := (ndGet xs).2.2) by18 by19 rfl rfl rfl)) ?_
          refine hg_take 10 (by rfl) (want_none (by rfl)) (by rfl) rfl (by decide) (by kernel_rfl) (by kernel_rfl) (by kernel_rfl) (fun _ _ _ h => h) (Below.refl _ _) (fun q hq => y_pick false rfl rfl rfl) ?_
          refine hg_take 11 (by rfl) (want_none (by rfl)) (by rfl) rfl (by decide) (by kernel_rfl) (by kernel_rfl) (by kernel_rfl) (fun _ _ _ h => h) (Below.refl _ _) (fun q hq => y_move rfl rfl) ?_
          refine hg_take 12 (by rfl) (want_t (dj := 61) (by rfl) (by kernel_rfl) rfl) (by rfl) rfl (by decide) (by kernel_rfl) (by kernel_rfl) (by kernel_rfl) (fun _ _ _ h => h) (Below.refl _ _) (fun q hq => y_move rfl rfl) ?_
          refine hg_take 13 (by rfl) (want_t (dj := 61) (by rfl) (by kernel_rfl) rfl) (by rfl) rfl (by decide) (by kernel_rfl) (by kernel_rfl) (by kernel_rfl) (fun _ _ _ h => h) (Below.refl _ _) (fun q hq => y_move rfl rfl) ?_
          refine hg_take 14 (by rfl) (want_t (dj := 61) (by rfl) (by kernel_rfl) rfl) (by rfl) rfl (by decide) (by kernel_rfl) (by kernel_rfl) (by kernel_rfl) (fun _ _ _ h => h) (Below.refl _ _) (fun q hq => yb (nd_f rfl) (yi_neq rfl rfl rfl)) ?_
          refine hg_take 15 (by rfl) (want_none (by rfl)) (by rfl) rfl (by decide) (by kernel_rfl) (by kernel_rfl) (by kernel_rfl) (fun _ _ _ h => h) (Below.refl _ _) (fun q hq => y_pick false rfl rfl rfl) ?_
          refine hg_take 16 (by rfl) (want_none (by rfl)) (by rfl) rfl (by decide) (by kernel_rfl) (by kernel_rfl) (by kernel_rfl) (fun _ _ _ h => h) (Below.refl _ _) (fun q hq => y_move rfl rfl) ?_
          have r1 := RowAt.below hw5 r1.lt r1
          have r1 := RowAt.below hw7 r1.lt r1
          have r1 := RowAt.below hw10 r1.lt r1
          have r1 := n11.keep r1
          have r1 := s12.keep r1 (by omega)
          have r1 := RowAt.below hw13 r1.lt r1
          have r1 := n14.keep r1
          have r1 := s15.keep r1 (by omega)
          have r1 := RowAt.below dW16 r1.lt r1
          have r1 := RowAt.below hw17 r1.lt r1
          refine hg_take 17 (by rfl) (want_t (dj := 66) (by rfl) (by kernel_rfl) rfl) (by rfl) rfl (by decide) (by kernel_rfl) (by kernel_rfl) (by kernel_rfl) (fun _ _ _ h => h) (Below.refl _ _) (fun q hq => y_loadA (RowAt.below hq r1.lt r1) (by kernel_rfl) (by kernel_rfl) rfl rfl) ?_
          refine hg_take 19 (by rfl) (want_t (dj := 66) (by rfl) (by kernel_rfl) rfl) (by rfl) rfl (by decide) (by kernel_rfl) (by kernel_rfl) (by kernel_rfl) (fun _ _ _ h => h) (Below.refl _ _) (fun q hq => y_loadA (RowAt.below hq r1.lt r1) (by kernel_rfl) (by kernel_rfl) rfl rfl) ?_
          have hl := hl.below (hw5.mono (by omega))
          have hl := hl.below (hw7.mono (by omega))
          have hl := hl.below (hw10.mono (by omega))
          have hl := hl.below (n11.below.mono (by omega))
          have hl := hl.below (s12.below _ (by omega))
          have hl := hl.below (hw13.mono (by omega))
          have hl := hl.below (n14.below.mono (by omega))
          have hl := hl.below (s15.below _ (by omega))
          have hl := hl.below (dW16.mono (by omega))
          have hl := hl.below (hw17.mono (by omega))
          refine hg_one 18 (by rfl) (by kernel_rfl) (want_t (dj := 66) (by rfl) (by kernel_rfl) rfl) ?_
          refine lg_callw (want_t (dj := 66) (by rfl) (by kernel_rfl) rfl) (checkN_any (hl.more (B' := w17.heap.size) (by omega)) (Nat.le_refl _)) (by kernel_rfl) rfl rfl rfl (by decide) ?_
          rintro _ w20 ⟨rfl, hw20⟩
          have zw20 := hw20.size
          refine hg_next hw20 ?_
          refine hg_up hw20 ?_
          have hl := hl.below (hw20.mono (by omega))
          refine hg_one 20 (by rfl) (by kernel_rfl) (want_t (dj := 66) (by rfl) (by kernel_rfl) rfl) ?_
          refine lg_callw (want_t (dj := 66) (by rfl) (by kernel_rfl) rfl) (rcheckN_any (hl.more (B' := w20.heap.size) (by omega)) (Nat.le_refl _)) (by kernel_rfl) rfl rfl rfl (by decide) ?_
          rintro _ w21 ⟨rfl, hw21⟩
          have zw21 := hw21.size
          refine hg_next hw21 ?_
          refine hg_up hw21 ?_
          refine hg_take 21 (by rfl) (want_t (dj := 66) (by rfl) (by kernel_rfl) rfl) (by rfl) rfl (by decide) (by kernel_rfl) (by kernel_rfl) (by kernel_rfl) (fun _ _ _ h => h) (Below.refl _ _) (fun q hq => yb (nd_f rfl) (yi_neq rfl rfl rfl)) ?_
          refine hg_take 22 (by rfl) (want_none (by rfl)) (by rfl) rfl (by decide) (by kernel_rfl) (by kernel_rfl) (by kernel_rfl) (fun _ _ _ h => h) (Below.refl _ _) (fun q hq => y_pick false rfl rfl rfl) ?_
          refine hg_take 23 (by rfl) (want_none (by rfl)) (by rfl) rfl (by decide) (by kernel_rfl) (by kernel_rfl) (by kernel_rfl) (fun _ _ _ h => h) (Below.refl _ _) (fun q hq => y_move rfl rfl) ?_
          refine hg_take 24 (by rfl) (want_t (dj := 73) (by rfl) (by kernel_rfl) rfl) (by rfl) rfl (by decide) (by kernel_rfl) (by kernel_rfl) (by kernel_rfl) (fun _ _ _ h => h) (Below.refl _ _) (fun q hq => y_move rfl rfl) ?_
          have r1 := RowAt.below hw20 r1.lt r1
          have r1 := RowAt.below hw21 r1.lt r1
          refine hg_take 25 (by rfl) (want_t (dj := 73) (by rfl) (by kernel_rfl) rfl) (by rfl) rfl (by decide) (by kernel_rfl) (by kernel_rfl) (by kernel_rfl) (fun _ _ _ h => h) (Below.refl _ _) (fun q hq => y_loadA (RowAt.below hq r1.lt r1) (by kernel_rfl) (by kernel_rfl) rfl rfl) ?_
          refine hg_take 28 (by rfl) (want_t (dj := 73) (by rfl) (by kernel_rfl) rfl) (by rfl) rfl (by decide) (by kernel_rfl) (by kernel_rfl) (by kernel_rfl) (fun _ _ _ h => h) (Below.refl _ _) (fun q hq => y_move rfl rfl) ?_
          refine hg_take 29 (by rfl) (want_t (dj := 73) (by rfl) (by kernel_rfl) rfl) (by rfl) rfl (by decide) (by kernel_rfl) (by kernel_rfl) (by kernel_rfl) (fun _ _ _ h => h) (Below.refl _ _) (fun q hq => y_loadA (RowAt.below hq r1.lt r1) (by kernel_rfl) (by kernel_rfl) rfl rfl) ?_
          have h := h.below (hw13.mono (by omega))
          have h := h.below (n14.below.mono (by omega))
          have h := h.set o15 rfl s15
          have h := h.below (dW16.mono (by omega))
          have h := h.below (hw17.mono (by omega))
          have h := h.below (hw20.mono (by omega))
          have h := h.below (hw21.mono (by omega))
          have hl := hl.below (hw21.mono (by omega))
          refine hg_one 26 (by rfl) (by kernel_rfl) (want_t (dj := 73) (by rfl) (by kernel_rfl) rfl) ?_
          refine lg_callw (want_t (dj := 73) (by rfl) (by kernel_rfl) rfl) (putN_any (h.more (B' := w21.heap.size) (by omega)) (hl.more (B' := w21.heap.size) (by omega)) (Nat.le_refl _) (by first | omega | (simp only [List.length_append, List.length_cons, List.length_nil, numOct_length, flagOct_length]; omega))) (by kernel_rfl) rfl rfl rfl (by decide) ?_
          rintro _ w22 ⟨r22, rfl, m22, hw22⟩
          have zw22 := hw22.size
          have lp22 := ndPut_le L
          refine hg_next hw22 ?_
          refine hg_up hw22 ?_
          have by23 : Bytes (xs ++ ndPut L) := m22.bytes
          refine hg_take 27 (by rfl) (want_t (dj := 73) (by rfl) (by kernel_rfl) rfl) (by rfl) rfl (by decide) (by kernel_rfl) (by kernel_rfl) (by kernel_rfl) (fun _ _ _ h => h) (Below.refl _ _) (fun q hq => y_strS (m22.below (hq.mono (by omega))) rfl rfl) ?_
          have h := h.below (hw22.mono (by omega))
          have hl := hl.below (hw22.mono (by omega))
          refine hg_one 30 (by rfl) (by kernel_rfl) (want_t (dj := 73) (by rfl) (by kernel_rfl) rfl) ?_
          refine lg_callw (want_t (dj := 73) (by rfl) (by kernel_rfl) rfl) (rputN_any (h.more (B' := w22.heap.size) (by omega)) (hl.more (B' := w22.heap.size) (by omega)) (Nat.le_refl _) (by first | omega | (simp only [List.length_append, List.length_cons, List.length_nil, numOct_length, flagOct_length]; omega))) (by kernel_rfl) rfl rfl rfl (by decide) ?_
          rintro _ w24 ⟨r24, rfl, m24, hw24⟩
          have zw24 := hw24.size
          have lp24 := ndPut_le L
          refine hg_next hw24 ?_
          refine hg_up hw24 ?_
          have by25 : Bytes (xs ++ ndPut L) := m24.bytes
          refine hg_take 31 (by rfl) (want_t (dj := 73) (by rfl) (by kernel_rfl) rfl) (by rfl) rfl (by decide) (by kernel_rfl) (by kernel_rfl) (by kernel_rfl) (fun _ _ _ h => h) (Below.refl _ _) (fun q hq => y_strS (m24.below (hq.mono (by omega))) rfl rfl) ?_
          refine hg_take 32 (by rfl) (want_t (dj := 73) (by rfl) (by kernel_rfl) rfl) (by rfl) rfl (by decide) (by kernel_rfl) (by kernel_rfl) (by kernel_rfl) (fun _ _ _ h => h) (Below.refl _ _) (fun q hq => yb (nd_f rfl) (y_sneS (xs := (xs ++ ndPut L)) (ys := (xs ++ ndPut L)) by23 by25 rfl rfl rfl)) ?_
          refine hg_take 33 (by rfl) (want_none (by rfl)) (by rfl) rfl (by decide) (by kernel_rfl) (by kernel_rfl) (by kernel_rfl) (fun _ _ _ h => h) (Below.refl _ _) (fun q hq => y_pick false rfl rfl rfl) ?_
          refine hg_take 34 (by rfl) (want_none (by rfl)) (by rfl) rfl (by decide) (by kernel_rfl) (by kernel_rfl) (by kernel_rfl) (fun _ _ _ h => h) (Below.refl _ _) (fun q hq => y_move rfl rfl) ?_
          have r1 := RowAt.below hw22 r1.lt r1
          have r1 := RowAt.below hw24 r1.lt r1
          refine hg_take 35 (by rfl) (want_t (dj := 84) (by rfl) (by kernel_rfl) rfl) (by rfl) rfl (by decide) (by kernel_rfl) (by kernel_rfl) (by kernel_rfl) (fun _ _ _ h => h) (Below.refl _ _) (fun q hq => y_loadA (RowAt.below hq r1.lt r1) (by kernel_rfl) (by kernel_rfl) rfl rfl) ?_
          have r2 := RowAt.below hw7 r2.lt r2
          have r2 := RowAt.below hw10 r2.lt r2
          have r2 := n11.keep r2
          have r2 := s12.keep r2 (by omega)
          have r2 := RowAt.below hw13 r2.lt r2
          have r2 := n14.keep r2
          have r2 := s15.keep r2 (by omega)
          have r2 := RowAt.below dW16 r2.lt r2
          have r2 := RowAt.below hw17 r2.lt r2
          have r2 := RowAt.below hw20 r2.lt r2
          have r2 := RowAt.below hw21 r2.lt r2
          have r2 := RowAt.below hw22 r2.lt r2
          have r2 := RowAt.below hw24 r2.lt r2
          refine hg_take 36 (by rfl) (want_t (dj := 84) (by rfl) (by kernel_rfl) rfl) (by rfl) rfl (by decide) (by kernel_rfl) (by kernel_rfl) (by kernel_rfl) (fun _ _ _ h => h) (Below.refl _ _) (fun q hq => y_loadA (RowAt.below hq r2.lt r2) (by kernel_rfl) (by kernel_rfl) rfl rfl) ?_
          refine hg_take 38 (by rfl) (want_t (dj := 84) (by rfl) (by kernel_rfl) rfl) (by rfl) rfl (by decide) (by kernel_rfl) (by kernel_rfl) (by kernel_rfl) (fun _ _ _ h => h) (Below.refl _ _) (fun q hq => y_loadA (RowAt.below hq r1.lt r1) (by kernel_rfl) (by kernel_rfl) rfl rfl) ?_
          refine hg_take 39 (by rfl) (want_t (dj := 84) (by rfl) (by kernel_rfl) rfl) (by rfl) rfl (by decide) (by kernel_rfl) (by kernel_rfl) (by kernel_rfl) (fun _ _ _ h => h) (Below.refl _ _) (fun q hq => y_loadA (RowAt.below hq r2.lt r2) (by kernel_rfl) (by kernel_rfl) rfl rfl) ?_
          have hl := hl.below (hw24.mono (by omega))
          have hm := hm.below (hw7.mono (by omega))
          have hm := hm.below (hw10.mono (by omega))
          have hm := hm.below (n11.below.mono (by omega))
          have hm := hm.below (s12.below _ (by omega))
          have hm := hm.below (hw13.mono (by omega))
          have hm := hm.below (n14.below.mono (by omega))
          have hm := hm.below (s15.below _ (by omega))
          have hm := hm.below (dW16.mono (by omega))
          have hm := hm.below (hw17.mono (by omega))
          have hm := hm.below (hw20.mono (by omega))
          have hm := hm.below (hw21.mono (by omega))
          have hm := hm.below (hw22.mono (by omega))
          have hm := hm.below (hw24.mono (by omega))
          by_cases c26 : NdSame L M
          · refine hg_one 37 (by rfl) (by kernel_rfl) (want_t (dj := 84) (by rfl) (by kernel_rfl) rfl) ?_
            refine lg_callw (want_t (dj := 84) (by rfl) (by kernel_rfl) rfl) (sameN_any (hl.more (B' := w24.heap.size) (by omega)) (hm.more (B' := w24.heap.size) (by omega)) (Nat.le_refl _)) (by kernel_rfl) rfl rfl rfl (by decide) ?_
            rintro u27 w27 ⟨e27, hw27⟩
            have zw27 := hw27.size
            obtain rfl : u27 = .bool true := e27.trans (congrArg Value.bool (decide_eq_true c26))
            refine hg_next hw27 ?_
            refine hg_up hw27 ?_
            have hl := hl.below (hw27.mono (by omega))
            have hm := hm.below (hw27.mono (by omega))
            refine hg_one 40 (by rfl) (by kernel_rfl) (want_t (dj := 84) (by rfl) (by kernel_rfl) rfl) ?_
            refine lg_callw (want_t (dj := 84) (by rfl) (by kernel_rfl) rfl) (rsameN_any (hl.more (B' := w27.heap.size) (by omega)) (hm.more (B' := w27.heap.size) (by omega)) (Nat.le_refl _)) (by kernel_rfl) rfl rfl rfl (by decide) ?_
            rintro u28 w28 ⟨e28, hw28⟩
            have zw28 := hw28.size
            obtain rfl : u28 = .bool true := e28.trans (congrArg Value.bool (decide_eq_true c26))
            refine hg_next hw28 ?_
            refine hg_up hw28 ?_
            refine hg_take 41 (by rfl) (want_t (dj := 84) (by rfl) (by kernel_rfl) rfl) (by rfl) rfl (by decide) (by kernel_rfl) (by kernel_rfl) (by kernel_rfl) (fun _ _ _ h => h) (Below.refl _ _) (fun q hq => yb (b := (!(true == true))) (show (!(true == true)) = false from rfl) (y_bne (a := true) (b := true) hubo rfl rfl rfl)) ?_
            refine hg_take 42 (by rfl) (want_none (by rfl)) (by rfl) rfl (by decide) (by kernel_rfl) (by kernel_rfl) (by kernel_rfl) (fun _ _ _ h => h) (Below.refl _ _) (fun q hq => y_pick false rfl rfl rfl) ?_
            refine hg_done (by kernel_rfl) ?_
            refine nx (E' := [(2, _), (3, _), (4, _), (5, _), (10, _), (11, _), (92, _)]) (fk rfl (fk rfl (fk rfl (fk rfl (fk rfl (fk rfl (fk rfl fn))))))) ?_
            refine cg_cf rfl ?_
            refine cg_skip ?_
            refine nx (E' := [(2, _), (3, _), (4, _), (5, _), (10, _), (11, _)]) (fk rfl (fk rfl (fk rfl (fk rfl (fk rfl (fk rfl fn)))))) ?_
            refine cg_seq ?_
            refine cg_held (by kernel_rfl) fun W29 eW29 => ?_
            have dW29 := below_drew _ _ eW29
            have zW29 := size_drew _ _ eW29
            clear eW29
            refine hg_take 0 (by rfl) (want_none (by rfl)) (by rfl) rfl (by decide) (by kernel_rfl) (by kernel_rfl) (by kernel_rfl) (fun _ _ _ h => h) (Below.refl _ _) (fun q hq => y_move rfl rfl) ?_
            refine hg_take 1 (by rfl) (want_none (by rfl)) (by rfl) rfl (by decide) (by kernel_rfl) (by kernel_rfl) (by kernel_rfl) (fun _ _ _ h => h) (Below.refl _ _) (fun q hq => y_move rfl rfl) ?_
            refine hg_take 2 (by rfl) (want_t (dj := 94) (by rfl) (by kernel_rfl) rfl) (by rfl) rfl (by decide) (by kernel_rfl) (by kernel_rfl) (by kernel_rfl) (fun _ _ _ h => h) (Below.refl _ _) (fun q hq => y_move rfl rfl) ?_
            have r1 := RowAt.below hw27 r1.lt r1
            have r1 := RowAt.below hw28 r1.lt r1
            have r1 := RowAt.below dW29 r1.lt r1
            refine hg_take 3 (by rfl) (want_t (dj := 94) (by rfl) (by kernel_rfl) rfl) (by rfl) rfl (by decide) (by kernel_rfl) (by kernel_rfl) (by kernel_rfl) (fun _ _ _ h => h) (Below.refl _ _) (fun q hq => y_loadA (RowAt.below hq r1.lt r1) (by kernel_rfl) (by kernel_rfl) rfl rfl) ?_
            refine hg_take 6 (by rfl) (want_t (dj := 94) (by rfl) (by kernel_rfl) rfl) (by rfl) rfl (by decide) (by kernel_rfl) (by kernel_rfl) (by kernel_rfl) (fun _ _ _ h => h) (Below.refl _ _) (fun q hq => y_move rfl rfl) ?_
            refine hg_take 7 (by rfl) (want_t (dj := 94) (by rfl) (by kernel_rfl) rfl) (by rfl) rfl (by decide) (by kernel_rfl) (by kernel_rfl) (by kernel_rfl) (fun _ _ _ h => h) (Below.refl _ _) (fun q hq => y_loadA (RowAt.below hq r1.lt r1) (by kernel_rfl) (by kernel_rfl) rfl rfl) ?_
            have hl := hl.below (hw28.mono (by omega))
            have hl := hl.below (dW29.mono (by omega))
            refine hg_one 4 (by rfl) (by kernel_rfl) (want_t (dj := 94) (by rfl) (by kernel_rfl) rfl) ?_
            refine lg_callw (want_t (dj := 94) (by rfl) (by kernel_rfl) rfl) (ofLeafN_any i (hl.more (B' := W29.heap.size) (by omega)) (Nat.le_refl _)) (by kernel_rfl) rfl rfl rfl (by decide) ?_
            rintro _ w30 ⟨r30, rfl, m30, hw30⟩
            have zw30 := hw30.size
            have lp30 := ofLeafO_le i L
            refine hg_next hw30 ?_
            refine hg_up hw30 ?_
            have by31 : Bytes (ofLeafO i L) := m30.bytes
            refine hg_take 5 (by rfl) (want_t (dj := 94) (by rfl) (by kernel_rfl) rfl) (by rfl) rfl (by decide) (by kernel_rfl) (by kernel_rfl) (by kernel_rfl) (fun _ _ _ h => h) (Below.refl _ _) (fun q hq => y_strS (m30.below (hq.mono (by omega))) rfl rfl) ?_
            have hl := hl.below (hw30.mono (by omega))
            refine hg_one 8 (by rfl) (by kernel_rfl) (want_t (dj := 94) (by rfl) (by kernel_rfl) rfl) ?_
            refine lg_callw (want_t (dj := 94) (by rfl) (by kernel_rfl) rfl) (rofLeafN_any i (hl.more (B' := w30.heap.size) (by omega)) (Nat.le_refl _)) (by kernel_rfl) rfl rfl rfl (by decide) ?_
            rintro _ w32 ⟨r32, rfl, m32, hw32⟩
            have zw32 := hw32.size
            have lp32 := ofLeafO_le i L
            refine hg_next hw32 ?_
            refine hg_up hw32 ?_
            have by33 : Bytes (ofLeafO i L) := m32.bytes
            refine hg_take 9 (by rfl) (want_t (dj := 94) (by rfl) (by kernel_rfl) rfl) (by rfl) rfl (by decide) (by kernel_rfl) (by kernel_rfl) (by kernel_rfl) (fun _ _ _ h => h) (Below.refl _ _) (fun q hq => y_strS (m32.below (hq.mono (by omega))) rfl rfl) ?_
            refine hg_take 10 (by rfl) (want_t (dj := 94) (by rfl) (by kernel_rfl) rfl) (by rfl) rfl (by decide) (by kernel_rfl) (by kernel_rfl) (by kernel_rfl) (fun _ _ _ h => h) (Below.refl _ _) (fun q hq => yb (decide_eq_true rfl) (y_seqS (xs := (ofLeafO i L)) (ys := (ofLeafO i L)) by31 by33 rfl rfl rfl)) ?_
            refine hg_take 11 (by rfl) (want_none (by rfl)) (by rfl) rfl (by decide) (by kernel_rfl) (by kernel_rfl) (by kernel_rfl) (fun _ _ _ h => h) (Below.refl _ _) (fun q hq => y_pick true rfl rfl rfl) ?_
            refine hg_take 12 (by rfl) (want_none (by rfl)) (by rfl) rfl (by decide) (by kernel_rfl) (by kernel_rfl) (by kernel_rfl) (fun _ _ _ h => h) (Below.refl _ _) (fun q hq => y_move rfl rfl) ?_
            have r1 := RowAt.below hw30 r1.lt r1
            have r1 := RowAt.below hw32 r1.lt r1
            refine hg_take 13 (by rfl) (want_t (dj := 105) (by rfl) (by kernel_rfl) rfl) (by rfl) rfl (by decide) (by kernel_rfl) (by kernel_rfl) (by kernel_rfl) (fun _ _ _ h => h) (Below.refl _ _) (fun q hq => y_loadA (RowAt.below hq r1.lt r1) (by kernel_rfl) (by kernel_rfl) rfl rfl) ?_
            refine hg_take 14 (by rfl) (want_t (dj := 105) (by rfl) (by kernel_rfl) rfl) (by rfl) rfl (by decide) (by kernel_rfl) (by kernel_rfl) (by kernel_rfl) (fun _ _ _ h => h) (Below.refl _ _) (fun q hq => y_move rfl rfl) ?_
            refine hg_take 15 (by rfl) (want_t (dj := 105) (by rfl) (by kernel_rfl) rfl) (by rfl) rfl (by decide) (by kernel_rfl) (by kernel_rfl) (by kernel_rfl) (fun _ _ _ h => h) (Below.refl _ _) (fun q hq => y_move rfl rfl) ?_
            refine hg_take 18 (by rfl) (want_t (dj := 105) (by rfl) (by kernel_rfl) rfl) (by rfl) rfl (by decide) (by kernel_rfl) (by kernel_rfl) (by kernel_rfl) (fun _ _ _ h => h) (Below.refl _ _) (fun q hq => y_loadA (RowAt.below hq r1.lt r1) (by kernel_rfl) (by kernel_rfl) rfl rfl) ?_
            refine hg_take 19 (by rfl) (want_t (dj := 105) (by rfl) (by kernel_rfl) rfl) (by rfl) rfl (by decide) (by kernel_rfl) (by kernel_rfl) (by kernel_rfl) (fun _ _ _ h => h) (Below.refl _ _) (fun q hq => y_move rfl rfl) ?_
            refine hg_take 20 (by rfl) (want_t (dj := 105) (by rfl) (by kernel_rfl) rfl) (by rfl) rfl (by decide) (by kernel_rfl) (by kernel_rfl) (by kernel_rfl) (fun _ _ _ h => h) (Below.refl _ _) (fun q hq => y_move rfl rfl) ?_
            have hl := hl.below (hw32.mono (by omega))
            have h := h.below (hw24.mono (by omega))
            have h := h.below (hw27.mono (by omega))
            have h := h.below (hw28.mono (by omega))
            have h := h.below (dW29.mono (by omega))
            have h := h.below (hw30.mono (by omega))
            have h := h.below (hw32.mono (by omega))
            have h2 := h2.below (hw10.mono (by omega))
            have h2 := h2.below (n11.below.mono (by omega))
            have h2 := h2.set o12 rfl s12
            have h2 := h2.below (hw13.mono (by omega))
            have h2 := h2.below (n14.below.mono (by omega))
            have h2 := h2.set o15 rfl s15
            have h2 := h2.below (dW16.mono (by omega))
            have h2 := h2.below (hw17.mono (by omega))
            have h2 := h2.below (hw20.mono (by omega))
            have h2 := h2.below (hw21.mono (by omega))
            have h2 := h2.below (hw22.mono (by omega))
            have h2 := h2.below (hw24.mono (by omega))
            have h2 := h2.below (hw27.mono (by omega))
            have h2 := h2.below (hw28.mono (by omega))
            have h2 := h2.below (dW29.mono (by omega))
            have h2 := h2.below (hw30.mono (by omega))
            have h2 := h2.below (hw32.mono (by omega))
            refine hg_one 16 (by rfl) (by kernel_rfl) (want_t (dj := 105) (by rfl) (by kernel_rfl) rfl) ?_
            refine lg_callw (want_t (dj := 105) (by rfl) (by kernel_rfl) rfl) (ofInnerN_any (hl.more (B' := w32.heap.size) (by omega)) (h.more (B' := w32.heap.size) (by omega)) (h2.more (B' := w32.heap.size) (by omega)) (Nat.le_refl _) (by first | omega | (simp only [List.length_append, List.length_cons, List.length_nil, numOct_length, flagOct_length]; omega)) (by first | omega | (simp only [List.length_append, List.length_cons, List.length_nil, numOct_length, flagOct_length]; omega))) (by kernel_rfl) rfl rfl rfl (by decide) ?_
            rintro _ w34 ⟨r34, rfl, m34, hw34⟩
            have zw34 := hw34.size
            have lp34 := ofInnerO_le L xs ys
            refine hg_next hw34 ?_
            refine hg_up hw34 ?_
            have by35 : Bytes (ofInnerO L xs ys) := m34.bytes
            refine hg_take 17 (by rfl) (want_t (dj := 105) (by rfl) (by kernel_rfl) rfl) (by rfl) rfl (by decide) (by kernel_rfl) (by kernel_rfl) (by kernel_rfl) (fun _ _ _ h => h) (Below.refl _ _) (fun q hq => y_strS (m34.below (hq.mono (by omega))) rfl rfl) ?_
            have hl := hl.below (hw34.mono (by omega))
            have h := h.below (hw34.mono (by omega))
            have h2 := h2.below (hw34.mono (by omega))
            refine hg_one 21 (by rfl) (by kernel_rfl) (want_t (dj := 105) (by rfl) (by kernel_rfl) rfl) ?_
            refine lg_callw (want_t (dj := 105) (by rfl) (by kernel_rfl) rfl) (rofInnerN_any (hl.more (B' := w34.heap.size) (by omega)) (h.more (B' := w34.heap.size) (by omega)) (h2.more (B' := w34.heap.size) (by omega)) (Nat.le_refl _) (by first | omega | (simp only [List.length_append, List.length_cons, List.length_nil, numOct_length, flagOct_length]; omega)) (by first | omega | (simp only [List.length_append, List.length_cons, List.length_nil, numOct_length, flagOct_length]; omega))) (by kernel_rfl) rfl rfl rfl (by decide) ?_
            rintro _ w36 ⟨r36, rfl, m36, hw36⟩
            have zw36 := hw36.size
            have lp36 := ofInnerO_le L xs ys
            refine hg_next hw36 ?_
            refine hg_up hw36 ?_
            have by37 : Bytes (ofInnerO L xs ys) := m36.bytes
            refine hg_take 22 (by rfl) (want_t (dj := 105) (by rfl) (by kernel_rfl) rfl) (by rfl) rfl (by decide) (by kernel_rfl) (by kernel_rfl) (by kernel_rfl) (fun _ _ _ h => h) (Below.refl _ _) (fun q hq => y_strS (m36.below (hq.mono (by omega))) rfl rfl) ?_
            refine hg_take 23 (by rfl) (want_t (dj := 105) (by rfl) (by kernel_rfl) rfl) (by rfl) rfl (by decide) (by kernel_rfl) (by kernel_rfl) (by kernel_rfl) (fun _ _ _ h => h) (Below.refl _ _) (fun q hq => yb (decide_eq_true rfl) (y_seqS (xs := (ofInnerO L xs ys)) (ys := (ofInnerO L xs ys)) by35 by37 rfl rfl rfl)) ?_
            refine hg_take 24 (by rfl) (want_none (by rfl)) (by rfl) rfl (by decide) (by kernel_rfl) (by kernel_rfl) (by kernel_rfl) (fun _ _ _ h => h) (Below.refl _ _) (fun q hq => y_pick true rfl rfl rfl) ?_
            refine hg_take 25 (by rfl) (want_none (by rfl)) (by rfl) rfl (by decide) (by kernel_rfl) (by kernel_rfl) (by kernel_rfl) (fun _ _ _ h => h) (Below.refl _ _) (fun q hq => y_move rfl rfl) ?_
            refine hg_take 26 (by rfl) (want_t (dj := 118) (by rfl) (by kernel_rfl) rfl) (by rfl) rfl (by decide) (by kernel_rfl) (by kernel_rfl) (by kernel_rfl) (fun _ _ _ h => h) (Below.refl _ _) (fun q hq => y_fld (off := 5) (by kernel_rfl) rfl rfl) ?_
            have r1 := RowAt.below hw34 r1.lt r1
            have r1 := RowAt.below hw36 r1.lt r1
            refine hg_take 27 (by rfl) (want_t (dj := 118) (by rfl) (by kernel_rfl) rfl) (by rfl) rfl (by decide) (by kernel_rfl) (by kernel_rfl) (by kernel_rfl) (fun _ _ _ h => h) (Below.refl _ _) (fun q hq => y_part (RowAt.below hq r1.lt r1) (m := 3) rfl (show 5+3 ≤ 8 by decide) (by kernel_rfl) (by kernel_rfl) rfl rfl) ?_
            refine hg_take 28 (by rfl) (want_t (dj := 118) (by rfl) (by kernel_rfl) rfl) (by rfl) rfl (by decide) (by kernel_rfl) (by kernel_rfl) (by kernel_rfl) (fun _ _ _ h => h) (Below.refl _ _) (fun q hq => y_move rfl rfl) ?_
            refine hg_take 31 (by rfl) (want_t (dj := 118) (by rfl) (by kernel_rfl) rfl) (by rfl) rfl (by decide) (by kernel_rfl) (by kernel_rfl) (by kernel_rfl) (fun _ _ _ h => h) (Below.refl _ _) (fun q hq => y_fld (off := 5) (by kernel_rfl) rfl rfl) ?_
            refine hg_take 32 (by rfl) (want_t (dj := 118) (by rfl) (by kernel_rfl) rfl) (by rfl) rfl (by decide) (by kernel_rfl) (by kernel_rfl) (by kernel_rfl) (fun _ _ _ h => h) (Below.refl _ _) (fun q hq => y_part (RowAt.below hq r1.lt r1) (m := 3) rfl (show 5+3 ≤ 8 by decide) (by kernel_rfl) (by kernel_rfl) rfl rfl) ?_
            refine hg_take 33 (by rfl) (want_t (dj := 118) (by rfl) (by kernel_rfl) rfl) (by rfl) rfl (by decide) (by kernel_rfl) (by kernel_rfl) (by kernel_rfl) (fun _ _ _ h => h) (Below.refl _ _) (fun q hq => y_move rfl rfl) ?_
            have hl := hl.below (hw36.mono (by omega))
            have h2 := h2.below (hw36.mono (by omega))
            refine hg_one 29 (by rfl) (by kernel_rfl) (want_t (dj := 118) (by rfl) (by kernel_rfl) rfl) ?_
            refine lg_callw (want_t (dj := 118) (by rfl) (by kernel_rfl) rfl) (ofParentN_any (hl.inner.more (B' := w36.heap.size) (by omega)) (h2.more (B' := w36.heap.size) (by omega)) (Nat.le_refl _) (by first | omega | (simp only [List.length_append, List.length_cons, List.length_nil, numOct_length, flagOct_length]; omega)) (by first | omega | (simp only [List.length_append, List.length_cons, List.length_nil, numOct_length, flagOct_length]; omega)) (by first | omega | (simp only [List.length_append, List.length_cons, List.length_nil, numOct_length, flagOct_length]; omega))) (by kernel_rfl) rfl rfl rfl (by decide) ?_
            rintro _ w38 ⟨r38, rfl, m38, hw38⟩
            have zw38 := hw38.size
            have lp38 := ofParentO_le L.inner ys
            refine hg_next hw38 ?_
            refine hg_up hw38 ?_
            have by39 : Bytes (ofParentO L.inner ys) := m38.bytes
            refine hg_take 30 (by rfl) (want_t (dj := 118) (by rfl) (by kernel_rfl) rfl) (by rfl) rfl (by decide) (by kernel_rfl) (by kernel_rfl) (by kernel_rfl) (fun _ _ _ h => h) (Below.refl _ _) (fun q hq => y_strS (m38.below (hq.mono (by omega))) rfl rfl) ?_
            have hl := hl.below (hw38.mono (by omega))
            have h2 := h2.below (hw38.mono (by omega))
            refine hg_one 34 (by rfl) (by kernel_rfl) (want_t (dj := 118) (by rfl) (by kernel_rfl) rfl) ?_
            refine lg_callw (want_t (dj := 118) (by rfl) (by kernel_rfl) rfl) (rofParentN_any (hl.inner.more (B' := w38.heap.size) (by omega)) (h2.more (B' := w38.heap.size) (by omega)) (Nat.le_refl _) (by first | omega | (simp only [List.length_append, List.length_cons, List.length_nil, numOct_length, flagOct_length]; omega)) (by first | omega | (simp only [List.length_append, List.length_cons, List.length_nil, numOct_length, flagOct_length]; omega)) (by first | omega | (simp only [List.length_append, List.length_cons, List.length_nil, numOct_length, flagOct_length]; omega))) (by kernel_rfl) rfl rfl rfl (by decide) ?_
            rintro _ w40 ⟨r40, rfl, m40, hw40⟩
            have zw40 := hw40.size
            have lp40 := ofParentO_le L.inner ys
            refine hg_next hw40 ?_
            refine hg_up hw40 ?_
            have by41 : Bytes (ofParentO L.inner ys) := m40.bytes
            refine hg_take 35 (by rfl) (want_t (dj := 118) (by rfl) (by kernel_rfl) rfl) (by rfl) rfl (by decide) (by kernel_rfl) (by kernel_rfl) (by kernel_rfl) (fun _ _ _ h => h) (Below.refl _ _) (fun q hq => y_strS (m40.below (hq.mono (by omega))) rfl rfl) ?_
            refine hg_take 36 (by rfl) (want_t (dj := 118) (by rfl) (by kernel_rfl) rfl) (by rfl) rfl (by decide) (by kernel_rfl) (by kernel_rfl) (by kernel_rfl) (fun _ _ _ h => h) (Below.refl _ _) (fun q hq => yb (decide_eq_true rfl) (y_seqS (xs := (ofParentO L.inner ys)) (ys := (ofParentO L.inner ys)) by39 by41 rfl rfl rfl)) ?_
            refine hg_take 37 (by rfl) (want_none (by rfl)) (by rfl) rfl (by decide) (by kernel_rfl) (by kernel_rfl) (by kernel_rfl) (fun _ _ _ h => h) (Below.refl _ _) (fun q hq => y_pick true rfl rfl rfl) ?_
            refine hg_take 38 (by rfl) (want_none (by rfl)) (by rfl) rfl (by decide) (by kernel_rfl) (by kernel_rfl) (by kernel_rfl) (fun _ _ _ h => h) (Below.refl _ _) (fun q hq => y_assign rfl rfl) ?_
            refine hg_done (by kernel_rfl) ?_
            refine nx (E' := [(10, _)]) (fk rfl fn) ?_
            refine cg_ret ?_
            have u := u.trans (n1.below.mono u.size)
            have u := u.trans (n2.below.mono u.size)
            have u := u.trans (hw3.mono u.size)
            have u := u.trans (hw5.mono u.size)
            have u := u.trans (hw7.mono u.size)
            have u := u.trans (hw10.mono u.size)
            have u := u.trans (n11.below.mono u.size)
            have u := u.trans (s12.below _ (by omega))
            have u := u.trans (hw13.mono u.size)
            have u := u.trans (n14.below.mono u.size)
            have u := u.trans (s15.below _ (by omega))
            have u := u.trans (dW16.mono u.size)
            have u := u.trans (hw17.mono u.size)
            have u := u.trans (hw20.mono u.size)
            have u := u.trans (hw21.mono u.size)
            have u := u.trans (hw22.mono u.size)
            have u := u.trans (hw24.mono u.size)
            have u := u.trans (hw27.mono u.size)
            have u := u.trans (hw28.mono u.size)
            have u := u.trans (dW29.mono u.size)
            have u := u.trans (hw30.mono u.size)
            have u := u.trans (hw32.mono u.size)
            have u := u.trans (hw34.mono u.size)
            have u := u.trans (hw36.mono u.size)
            have u := u.trans (hw38.mono u.size)
            have u := u.trans (hw40.mono u.size)
            exact eg_ret_tmp rfl rfl ⟨_, rfl, rfl, u⟩
          · refine hg_one 37 (by rfl) (by kernel_rfl) (want_t (dj := 84) (by rfl) (by kernel_rfl) rfl) ?_
            refine lg_callw (want_t (dj := 84) (by rfl) (by kernel_rfl) rfl) (sameN_any (hl.more (B' := w24.heap.size) (by omega)) (hm.more (B' := w24.heap.size) (by omega)) (Nat.le_refl _)) (by kernel_rfl) rfl rfl rfl (by decide) ?_
            rintro u42 w42 ⟨e42, hw42⟩
            have zw42 := hw42.size
            obtain rfl : u42 = .bool false := e42.trans (congrArg Value.bool (decide_eq_false c26))
            refine hg_next hw42 ?_
            refine hg_up hw42 ?_
            have hl := hl.below (hw42.mono (by omega))
            have hm := hm.below (hw42.mono (by omega))
            refine hg_one 40 (by rfl) (by kernel_rfl) (want_t (dj := 84) (by rfl) (by kernel_rfl) rfl) ?_
            refine lg_callw (want_t (dj := 84) (by rfl) (by kernel_rfl) rfl) (rsameN_any (hl.more (B' := w42.heap.size) (by omega)) (hm.more (B' := w42.heap.size) (by omega)) (Nat.le_refl _)) (by kernel_rfl) rfl rfl rfl (by decide) ?_
            rintro u43 w43 ⟨e43, hw43⟩
            have zw43 := hw43.size
            obtain rfl : u43 = .bool false := e43.trans (congrArg Value.bool (decide_eq_false c26))
            refine hg_next hw43 ?_
            refine hg_up hw43 ?_
            refine hg_take 41 (by rfl) (want_t (dj := 84) (by rfl) (by kernel_rfl) rfl) (by rfl) rfl (by decide) (by kernel_rfl) (by kernel_rfl) (by kernel_rfl) (fun _ _ _ h => h) (Below.refl _ _) (fun q hq => yb (b := (!(false == false))) (show (!(false == false)) = false from rfl) (y_bne (a := false) (b := false) hubo rfl rfl rfl)) ?_
            refine hg_take 42 (by rfl) (want_none (by rfl)) (by rfl) rfl (by decide) (by kernel_rfl) (by kernel_rfl) (by kernel_rfl) (fun _ _ _ h => h) (Below.refl _ _) (fun q hq => y_pick false rfl rfl rfl) ?_
            refine hg_done (by kernel_rfl) ?_
            refine nx (E' := [(2, _), (3, _), (4, _), (5, _), (10, _), (11, _), (92, _)]) (fk rfl (fk rfl (fk rfl (fk rfl (fk rfl (fk rfl (fk rfl fn))))))) ?_
            refine cg_cf rfl ?_
            refine cg_skip ?_
            refine nx (E' := [(2, _), (3, _), (4, _), (5, _), (10, _), (11, _)]) (fk rfl (fk rfl (fk rfl (fk rfl (fk rfl (fk rfl fn)))))) ?_
            refine cg_seq ?_
            refine cg_held (by kernel_rfl) fun W44 eW44 => ?_
            have dW44 := below_drew _ _ eW44
            have zW44 := size_drew _ _ eW44
            clear eW44
            refine hg_take 0 (by rfl) (want_none (by rfl)) (by rfl) rfl (by decide) (by kernel_rfl) (by kernel_rfl) (by kernel_rfl) (fun _ _ _ h => h) (Below.refl _ _) (fun q hq => y_move rfl rfl) ?_
            refine hg_take 1 (by rfl) (want_none (by rfl)) (by rfl) rfl (by decide) (by kernel_rfl) (by kernel_rfl) (by kernel_rfl) (fun _ _ _ h => h) (Below.refl _ _) (fun q hq => y_move rfl rfl) ?_
            refine hg_take 2 (by rfl) (want_t (dj := 94) (by rfl) (by kernel_rfl) rfl) (by rfl) rfl (by decide) (by kernel_rfl) (by kernel_rfl) (by kernel_rfl) (fun _ _ _ h => h) (Below.refl _ _) (fun q hq => y_move rfl rfl) ?_
            have r1 := RowAt.below hw42 r1.lt r1
            have r1 := RowAt.below hw43 r1.lt r1
            have r1 := RowAt.below dW44 r1.lt r1
            refine hg_take 3 (by rfl) (want_t (dj := 94) (by rfl) (by kernel_rfl) rfl) (by rfl) rfl (by decide) (by kernel_rfl) (by kernel_rfl) (by kernel_rfl) (fun _ _ _ h => h) (Below.refl _ _) (fun q hq => y_loadA (RowAt.below hq r1.lt r1) (by kernel_rfl) (by kernel_rfl) rfl rfl) ?_
            refine hg_take 6 (by rfl) (want_t (dj := 94) (by rfl) (by kernel_rfl) rfl) (by rfl) rfl (by decide) (by kernel_rfl) (by kernel_rfl) (by kernel_rfl) (fun _ _ _ h => h) (Below.refl _ _) (fun q hq => y_move rfl rfl) ?_
            refine hg_take 7 (by rfl) (want_t (dj := 94) (by rfl) (by kernel_rfl) rfl) (by rfl) rfl (by decide) (by kernel_rfl) (by kernel_rfl) (by kernel_rfl) (fun _ _ _ h => h) (Below.refl _ _) (fun q hq => y_loadA (RowAt.below hq r1.lt r1) (by kernel_rfl) (by kernel_rfl) rfl rfl) ?_
            have hl := hl.below (hw43.mono (by omega))
            have hl := hl.below (dW44.mono (by omega))
            refine hg_one 4 (by rfl) (by kernel_rfl) (want_t (dj := 94) (by rfl) (by kernel_rfl) rfl) ?_
            refine lg_callw (want_t (dj := 94) (by rfl) (by kernel_rfl) rfl) (ofLeafN_any i (hl.more (B' := W44.heap.size) (by omega)) (Nat.le_refl _)) (by kernel_rfl) rfl rfl rfl (by decide) ?_
            rintro _ w45 ⟨r45, rfl, m45, hw45⟩
            have zw45 := hw45.size
            have lp45 := ofLeafO_le i L
            refine hg_next hw45 ?_
            refine hg_up hw45 ?_
            have by46 : Bytes (ofLeafO i L) := m45.bytes
            refine hg_take 5 (by rfl) (want_t (dj := 94) (by rfl) (by kernel_rfl) rfl) (by rfl) rfl (by decide) (by kernel_rfl) (by kernel_rfl) (by kernel_rfl) (fun _ _ _ h => h) (Below.refl _ _) (fun q hq => y_strS (m45.below (hq.mono (by omega))) rfl rfl) ?_
            have hl := hl.below (hw45.mono (by omega))
            refine hg_one 8 (by rfl) (by kernel_rfl) (want_t (dj := 94) (by rfl) (by kernel_rfl) rfl) ?_
            refine lg_callw (want_t (dj := 94) (by rfl) (by kernel_rfl) rfl) (rofLeafN_any i (hl.more (B' := w45.heap.size) (by omega)) (Nat.le_refl _)) (by kernel_rfl) rfl rfl rfl (by decide) ?_
            rintro _ w47 ⟨r47, rfl, m47, hw47⟩
            have zw47 := hw47.size
            have lp47 := ofLeafO_le i L
            refine hg_next hw47 ?_
            refine hg_up hw47 ?_
            have by48 : Bytes (ofLeafO i L) := m47.bytes
            refine hg_take 9 (by rfl) (want_t (dj := 94) (by rfl) (by kernel_rfl) rfl) (by rfl) rfl (by decide) (by kernel_rfl) (by kernel_rfl) (by kernel_rfl) (fun _ _ _ h => h) (Below.refl _ _) (fun q hq => y_strS (m47.below (hq.mono (by omega))) rfl rfl) ?_
            refine hg_take 10 (by rfl) (want_t (dj := 94) (by rfl) (by kernel_rfl) rfl) (by rfl) rfl (by decide) (by kernel_rfl) (by kernel_rfl) (by kernel_rfl) (fun _ _ _ h => h) (Below.refl _ _) (fun q hq => yb (decide_eq_true rfl) (y_seqS (xs := (ofLeafO i L)) (ys := (ofLeafO i L)) by46 by48 rfl rfl rfl)) ?_
            refine hg_take 11 (by rfl) (want_none (by rfl)) (by rfl) rfl (by decide) (by kernel_rfl) (by kernel_rfl) (by kernel_rfl) (fun _ _ _ h => h) (Below.refl _ _) (fun q hq => y_pick true rfl rfl rfl) ?_
            refine hg_take 12 (by rfl) (want_none (by rfl)) (by rfl) rfl (by decide) (by kernel_rfl) (by kernel_rfl) (by kernel_rfl) (fun _ _ _ h => h) (Below.refl _ _) (fun q hq => y_move rfl rfl) ?_
            have r1 := RowAt.below hw45 r1.lt r1
            have r1 := RowAt.below hw47 r1.lt r1
            refine hg_take 13 (by rfl) (want_t (dj := 105) (by rfl) (by kernel_rfl) rfl) (by rfl) rfl (by decide) (by kernel_rfl) (by kernel_rfl) (by kernel_rfl) (fun _ _ _ h => h) (Below.refl _ _) (fun q hq => y_loadA (RowAt.below hq r1.lt r1) (by kernel_rfl) (by kernel_rfl) rfl rfl) ?_
            refine hg_take 14 (by rfl) (want_t (dj := 105) (by rfl) (by kernel_rfl) rfl) (by rfl) rfl (by decide) (by kernel_rfl) (by kernel_rfl) (by kernel_rfl) (fun _ _ _ h => h) (Below.refl _ _) (fun q hq => y_move rfl rfl) ?_
            refine hg_take 15 (by rfl) (want_t (dj := 105) (by rfl) (by kernel_rfl) rfl) (by rfl) rfl (by decide) (by kernel_rfl) (by kernel_rfl) (by kernel_rfl) (fun _ _ _ h => h) (Below.refl _ _) (fun q hq => y_move rfl rfl) ?_
            refine hg_take 18 (by rfl) (want_t (dj := 105) (by rfl) (by kernel_rfl) rfl) (by rfl) rfl (by decide) (by kernel_rfl) (by kernel_rfl) (by kernel_rfl) (fun _ _ _ h => h) (Below.refl _ _) (fun q hq => y_loadA (RowAt.below hq r1.lt r1) (by kernel_rfl) (by kernel_rfl) rfl rfl) ?_
            refine hg_take 19 (by rfl) (want_t (dj := 105) (by rfl) (by kernel_rfl) rfl) (by rfl) rfl (by decide) (by kernel_rfl) (by kernel_rfl) (by kernel_rfl) (fun _ _ _ h => h) (Below.refl _ _) (fun q hq => y_move rfl rfl) ?_
            refine hg_take 20 (by rfl) (want_t (dj := 105) (by rfl) (by kernel_rfl) rfl) (by rfl) rfl (by decide) (by kernel_rfl) (by kernel_rfl) (by kernel_rfl) (fun _ _ _ h => h) (Below.refl _ _) (fun q hq => y_move rfl rfl) ?_
            have hl := hl.below (hw47.mono (by omega))
            have h := h.below (hw24.mono (by omega))
            have h := h.below (hw42.mono (by omega))
            have h := h.below (hw43.mono (by omega))
            have h := h.below (dW44.mono (by omega))
            have h := h.below (hw45.mono (by omega))
            have h := h.below (hw47.mono (by omega))
            have h2 := h2.below (hw10.mono (by omega))
            have h2 := h2.below (n11.below.mono (by omega))
            have h2 := h2.set o12 rfl s12
            have h2 := h2.below (hw13.mono (by omega))
            have h2 := h2.below (n14.below.mono (by omega))
            have h2 := h2.set o15 rfl s15
            have h2 := h2.below (dW16.mono (by omega))
            have h2 := h2.below (hw17.mono (by omega))
            have h2 := h2.below (hw20.mono (by omega))
            have h2 := h2.below (hw21.mono (by omega))
            have h2 := h2.below (hw22.mono (by omega))
            have h2 := h2.below (hw24.mono (by omega))
            have h2 := h2.below (hw42.mono (by omega))
            have h2 := h2.below (hw43.mono (by omega))
            have h2 := h2.below (dW44.mono (by omega))
            have h2 := h2.below (hw45.mono (by omega))
            have h2 := h2.below (hw47.mono (by omega))
            refine hg_one 16 (by rfl) (by kernel_rfl) (want_t (dj := 105) (by rfl) (by kernel_rfl) rfl) ?_
            refine lg_callw (want_t (dj := 105) (by rfl) (by kernel_rfl) rfl) (ofInnerN_any (hl.more (B' := w47.heap.size) (by omega)) (h.more (B' := w47.heap.size) (by omega)) (h2.more (B' := w47.heap.size) (by omega)) (Nat.le_refl _) (by first | omega | (simp only [List.length_append, List.length_cons, List.length_nil, numOct_length, flagOct_length]; omega)) (by first | omega | (simp only [List.length_append, List.length_cons, List.length_nil, numOct_length, flagOct_length]; omega))) (by kernel_rfl) rfl rfl rfl (by decide) ?_
            rintro _ w49 ⟨r49, rfl, m49, hw49⟩
            have zw49 := hw49.size
            have lp49 := ofInnerO_le L xs ys
            refine hg_next hw49 ?_
            refine hg_up hw49 ?_
            have by50 : Bytes (ofInnerO L xs ys) := m49.bytes
            refine hg_take 17 (by rfl) (want_t (dj := 105) (by rfl) (by kernel_rfl) rfl) (by rfl) rfl (by decide) (by kernel_rfl) (by kernel_rfl) (by kernel_rfl) (fun _ _ _ h => h) (Below.refl _ _) (fun q hq => y_strS (m49.below (hq.mono (by omega))) rfl rfl) ?_
            have hl := hl.below (hw49.mono (by omega))
            have h := h.below (hw49.mono (by omega))
            have h2 := h2.below (hw49.mono (by omega))
            refine hg_one 21 (by rfl) (by kernel_rfl) (want_t (dj := 105) (by rfl) (by kernel_rfl) rfl) ?_
            refine lg_callw (want_t (dj := 105) (by rfl) (by kernel_rfl) rfl) (rofInnerN_any (hl.more (B' := w49.heap.size) (by omega)) (h.more (B' := w49.heap.size) (by omega)) (h2.more (B' := w49.heap.size) (by omega)) (Nat.le_refl _) (by first | omega | (simp only [List.length_append, List.length_cons, List.length_nil, numOct_length, flagOct_length]; omega)) (by first | omega | (simp only [List.length_append, List.length_cons, List.length_nil, numOct_length, flagOct_length]; omega))) (by kernel_rfl) rfl rfl rfl (by decide) ?_
            rintro _ w51 ⟨r51, rfl, m51, hw51⟩
            have zw51 := hw51.size
            have lp51 := ofInnerO_le L xs ys
            refine hg_next hw51 ?_
            refine hg_up hw51 ?_
            have by52 : Bytes (ofInnerO L xs ys) := m51.bytes
            refine hg_take 22 (by rfl) (want_t (dj := 105) (by rfl) (by kernel_rfl) rfl) (by rfl) rfl (by decide) (by kernel_rfl) (by kernel_rfl) (by kernel_rfl) (fun _ _ _ h => h) (Below.refl _ _) (fun q hq => y_strS (m51.below (hq.mono (by omega))) rfl rfl) ?_
            refine hg_take 23 (by rfl) (want_t (dj := 105) (by rfl) (by kernel_rfl) rfl) (by rfl) rfl (by decide) (by kernel_rfl) (by kernel_rfl) (by kernel_rfl) (fun _ _ _ h => h) (Below.refl _ _) (fun q hq => yb (decide_eq_true rfl) (y_seqS (xs := (ofInnerO L xs ys)) (ys := (ofInnerO L xs ys)) by50 by52 rfl rfl rfl)) ?_
            refine hg_take 24 (by rfl) (want_none (by rfl)) (by rfl) rfl (by decide) (by kernel_rfl) (by kernel_rfl) (by kernel_rfl) (fun _ _ _ h => h) (Below.refl _ _) (fun q hq => y_pick true rfl rfl rfl) ?_
            refine hg_take 25 (by rfl) (want_none (by rfl)) (by rfl) rfl (by decide) (by kernel_rfl) (by kernel_rfl) (by kernel_rfl) (fun _ _ _ h => h) (Below.refl _ _) (fun q hq => y_move rfl rfl) ?_
            refine hg_take 26 (by rfl) (want_t (dj := 118) (by rfl) (by kernel_rfl) rfl) (by rfl) rfl (by decide) (by kernel_rfl) (by kernel_rfl) (by kernel_rfl) (fun _ _ _ h => h) (Below.refl _ _) (fun q hq => y_fld (off := 5) (by kernel_rfl) rfl rfl) ?_
            have r1 := RowAt.below hw49 r1.lt r1
            have r1 := RowAt.below hw51 r1.lt r1
            refine hg_take 27 (by rfl) (want_t (dj := 118) (by rfl) (by kernel_rfl) rfl) (by rfl) rfl (by decide) (by kernel_rfl) (by kernel_rfl) (by kernel_rfl) (fun _ _ _ h => h) (Below.refl _ _) (fun q hq => y_part (RowAt.below hq r1.lt r1) (m := 3) rfl (show 5+3 ≤ 8 by decide) (by kernel_rfl) (by kernel_rfl) rfl rfl) ?_
            refine hg_take 28 (by rfl) (want_t (dj := 118) (by rfl) (by kernel_rfl) rfl) (by rfl) rfl (by decide) (by kernel_rfl) (by kernel_rfl) (by kernel_rfl) (fun _ _ _ h => h) (Below.refl _ _) (fun q hq => y_move rfl rfl) ?_
            refine hg_take 31 (by rfl) (want_t (dj := 118) (by rfl) (by kernel_rfl) rfl) (by rfl) rfl (by decide) (by kernel_rfl) (by kernel_rfl) (by kernel_rfl) (fun _ _ _ h => h) (Below.refl _ _) (fun q hq => y_fld (off := 5) (by kernel_rfl) rfl rfl) ?_
            refine hg_take 32 (by rfl) (want_t (dj := 118) (by rfl) (by kernel_rfl) rfl) (by rfl) rfl (by decide) (by kernel_rfl) (by kernel_rfl) (by kernel_rfl) (fun _ _ _ h => h) (Below.refl _ _) (fun q hq => y_part (RowAt.below hq r1.lt r1) (m := 3) rfl (show 5+3 ≤ 8 by decide) (by kernel_rfl) (by kernel_rfl) rfl rfl) ?_
            refine hg_take 33 (by rfl) (want_t (dj := 118) (by rfl) (by kernel_rfl) rfl) (by rfl) rfl (by decide) (by kernel_rfl) (by kernel_rfl) (by kernel_rfl) (fun _ _ _ h => h) (Below.refl _ _) (fun q hq => y_move rfl rfl) ?_
            have hl := hl.below (hw51.mono (by omega))
            have h2 := h2.below (hw51.mono (by omega))
            refine hg_one 29 (by rfl) (by kernel_rfl) (want_t (dj := 118) (by rfl) (by kernel_rfl) rfl) ?_
            refine lg_callw (want_t (dj := 118) (by rfl) (by kernel_rfl) rfl) (ofParentN_any (hl.inner.more (B' := w51.heap.size) (by omega)) (h2.more (B' := w51.heap.size) (by omega)) (Nat.le_refl _) (by first | omega | (simp only [List.length_append, List.length_cons, List.length_nil, numOct_length, flagOct_length]; omega)) (by first | omega | (simp only [List.length_append, List.length_cons, List.length_nil, numOct_length, flagOct_length]; omega)) (by first | omega | (simp only [List.length_append, List.length_cons, List.length_nil, numOct_length, flagOct_length]; omega))) (by kernel_rfl) rfl rfl rfl (by decide) ?_
            rintro _ w53 ⟨r53, rfl, m53, hw53⟩
            have zw53 := hw53.size
            have lp53 := ofParentO_le L.inner ys
            refine hg_next hw53 ?_
            refine hg_up hw53 ?_
            have by54 : Bytes (ofParentO L.inner ys) := m53.bytes
            refine hg_take 30 (by rfl) (want_t (dj := 118) (by rfl) (by kernel_rfl) rfl) (by rfl) rfl (by decide) (by kernel_rfl) (by kernel_rfl) (by kernel_rfl) (fun _ _ _ h => h) (Below.refl _ _) (fun q hq => y_strS (m53.below (hq.mono (by omega))) rfl rfl) ?_
            have hl := hl.below (hw53.mono (by omega))
            have h2 := h2.below (hw53.mono (by omega))
            refine hg_one 34 (by rfl) (by kernel_rfl) (want_t (dj := 118) (by rfl) (by kernel_rfl) rfl) ?_
            refine lg_callw (want_t (dj := 118) (by rfl) (by kernel_rfl) rfl) (rofParentN_any (hl.inner.more (B' := w53.heap.size) (by omega)) (h2.more (B' := w53.heap.size) (by omega)) (Nat.le_refl _) (by first | omega | (simp only [List.length_append, List.length_cons, List.length_nil, numOct_length, flagOct_length]; omega)) (by first | omega | (simp only [List.length_append, List.length_cons, List.length_nil, numOct_length, flagOct_length]; omega)) (by first | omega | (simp only [List.length_append, List.length_cons, List.length_nil, numOct_length, flagOct_length]; omega))) (by kernel_rfl) rfl rfl rfl (by decide) ?_
            rintro _ w55 ⟨r55, rfl, m55, hw55⟩
            have zw55 := hw55.size
            have lp55 := ofParentO_le L.inner ys
            refine hg_next hw55 ?_
            refine hg_up hw55 ?_
            have by56 : Bytes (ofParentO L.inner ys) := m55.bytes
            refine hg_take 35 (by rfl) (want_t (dj := 118) (by rfl) (by kernel_rfl) rfl) (by rfl) rfl (by decide) (by kernel_rfl) (by kernel_rfl) (by kernel_rfl) (fun _ _ _ h => h) (Below.refl _ _) (fun q hq => y_strS (m55.below (hq.mono (by omega))) rfl rfl) ?_
            refine hg_take 36 (by rfl) (want_t (dj := 118) (by rfl) (by kernel_rfl) rfl) (by rfl) rfl (by decide) (by kernel_rfl) (by kernel_rfl) (by kernel_rfl) (fun _ _ _ h => h) (Below.refl _ _) (fun q hq => yb (decide_eq_true rfl) (y_seqS (xs := (ofParentO L.inner ys)) (ys := (ofParentO L.inner ys)) by54 by56 rfl rfl rfl)) ?_
            refine hg_take 37 (by rfl) (want_none (by rfl)) (by rfl) rfl (by decide) (by kernel_rfl) (by kernel_rfl) (by kernel_rfl) (fun _ _ _ h => h) (Below.refl _ _) (fun q hq => y_pick true rfl rfl rfl) ?_
            refine hg_take 38 (by rfl) (want_none (by rfl)) (by rfl) rfl (by decide) (by kernel_rfl) (by kernel_rfl) (by kernel_rfl) (fun _ _ _ h => h) (Below.refl _ _) (fun q hq => y_assign rfl rfl) ?_
            refine hg_done (by kernel_rfl) ?_
            refine nx (E' := [(10, _)]) (fk rfl fn) ?_
            refine cg_ret ?_
            have u := u.trans (n1.below.mono u.size)
            have u := u.trans (n2.below.mono u.size)
            have u := u.trans (hw3.mono u.size)
            have u := u.trans (hw5.mono u.size)
            have u := u.trans (hw7.mono u.size)
            have u := u.trans (hw10.mono u.size)
            have u := u.trans (n11.below.mono u.size)
            have u := u.trans (s12.below _ (by omega))
            have u := u.trans (hw13.mono u.size)
            have u := u.trans (n14.below.mono u.size)
            have u := u.trans (s15.below _ (by omega))
            have u := u.trans (dW16.mono u.size)
            have u := u.trans (hw17.mono u.size)
            have u := u.trans (hw20.mono u.size)
            have u := u.trans (hw21.mono u.size)
            have u := u.trans (hw22.mono u.size)
            have u := u.trans (hw24.mono u.size)
            have u := u.trans (hw42.mono u.size)
            have u := u.trans (hw43.mono u.size)
            have u := u.trans (dW44.mono u.size)
            have u := u.trans (hw45.mono u.size)
            have u := u.trans (hw47.mono u.size)
            have u := u.trans (hw49.mono u.size)
            have u := u.trans (hw51.mono u.size)
            have u := u.trans (hw53.mono u.size)
            have u := u.trans (hw55.mono u.size)
            exact eg_ret_tmp rfl rfl ⟨_, rfl, rfl, u⟩
    · refine lg_callw (want_t (dj := 22) (by rfl) (by kernel_rfl) rfl) (fewN_any (hm.more (B' := w5.heap.size) (by omega)) (Nat.le_refl _)) (by kernel_rfl) rfl rfl rfl (by decide) ?_
      rintro u57 w57 ⟨e57, hw57⟩
      have zw57 := hw57.size
      obtain rfl : u57 = .bool false := e57.trans (congrArg Value.bool (decide_eq_false c6))
      refine lsw (want_t (dj := 22) (by rfl) (by kernel_rfl) rfl) (y_bnot rfl rfl) rfl (by decide) ?_
      refine lsw (want_none (by rfl)) (y_pick false rfl rfl rfl) rfl (by decide) ?_
      refine lsw (want_none (by rfl)) (y_move rfl rfl) rfl (by decide) ?_
      refine lsk (want_f (dj := 27) (by rfl) (by kernel_rfl) rfl) rfl (by decide) ?_
      refine lsk (want_f (dj := 27) (by rfl) (by kernel_rfl) rfl) rfl (by decide) ?_
      refine lsk (want_f (dj := 27) (by rfl) (by kernel_rfl) rfl) rfl (by decide) ?_
      refine lsw (want_none (by rfl)) (y_pick true rfl rfl rfl) rfl (by decide) ?_
      refine lsw (want_none (by rfl)) (y_move rfl rfl) rfl (by decide) ?_
      refine lsk (want_f (dj := 32) (by rfl) (by kernel_rfl) rfl) rfl (by decide) ?_
      refine lsk (want_f (dj := 32) (by rfl) (by kernel_rfl) rfl) rfl (by decide) ?_
      refine lsk (want_f (dj := 32) (by rfl) (by kernel_rfl) rfl) rfl (by decide) ?_
      refine lsw (want_none (by rfl)) (y_pick true rfl rfl rfl) rfl (by decide) ?_
      refine lg_nil ?_
      refine nx (E' := [(2, _), (3, _), (4, _), (5, _), (6, _), (10, _), (11, _), (36, _)]) (fk rfl (fk rfl (fk rfl (fk rfl (fk rfl (fk rfl (fk rfl (fk rfl fn)))))))) ?_
      refine cg_ct rfl ?_
      refine cg_seq ?_
      refine cg_region ?_
      refine lsw (want_none (by rfl)) (y_move rfl rfl) rfl (by decide) ?_
      refine lsw (want_none (by rfl)) (y_assign rfl rfl) rfl (by decide) ?_
      refine lg_nil ?_
      refine nx (E' := [(2, _), (3, _), (4, _), (5, _), (6, _), (11, _), (10, _)]) (fk rfl (fk rfl (fk rfl (fk rfl (fk rfl (fk rfl (fk rfl fn))))))) ?_
      refine cg_ret ?_
      refine eg_seq_ret ?_
      have u := u.trans (n1.below.mono u.size)
      have u := u.trans (n2.below.mono u.size)
      have u := u.trans (hw3.mono u.size)
      have u := u.trans (hw5.mono u.size)
      have u := u.trans (hw57.mono u.size)
      exact eg_ret_tmp rfl rfl ⟨_, rfl, rfl, u⟩
  · refine lg_callw (want_none (by rfl)) (fewN_any (hl.more (B' := w3.heap.size) (by omega)) (Nat.le_refl _)) (by kernel_rfl) rfl rfl rfl (by decide) ?_
    rintro u58 w58 ⟨e58, hw58⟩
    have zw58 := hw58.size
    obtain rfl : u58 = .bool false := e58.trans (congrArg Value.bool (decide_eq_false c4))
    refine lsw (want_none (by rfl)) (y_bnot rfl rfl) rfl (by decide) ?_
    refine lsw (want_none (by rfl)) (y_move rfl rfl) rfl (by decide) ?_
    refine lsk (want_f (dj := 22) (by rfl) (by kernel_rfl) rfl) rfl (by decide) ?_
    refine lsk (want_f (dj := 22) (by rfl) (by kernel_rfl) rfl) rfl (by decide) ?_
    refine lsk (want_f (dj := 22) (by rfl) (by kernel_rfl) rfl) rfl (by decide) ?_
    refine lsw (want_none (by rfl)) (y_pick true rfl rfl rfl) rfl (by decide) ?_
    refine lsw (want_none (by rfl)) (y_move rfl rfl) rfl (by decide) ?_
    refine lsk (want_f (dj := 27) (by rfl) (by kernel_rfl) rfl) rfl (by decide) ?_
    refine lsk (want_f (dj := 27) (by rfl) (by kernel_rfl) rfl) rfl (by decide) ?_
    refine lsk (want_f (dj := 27) (by rfl) (by kernel_rfl) rfl) rfl (by decide) ?_
    refine lsw (want_none (by rfl)) (y_pick true rfl rfl rfl) rfl (by decide) ?_
    refine lsw (want_none (by rfl)) (y_move rfl rfl) rfl (by decide) ?_
    refine lsk (want_f (dj := 32) (by rfl) (by kernel_rfl) rfl) rfl (by decide) ?_
    refine lsk (want_f (dj := 32) (by rfl) (by kernel_rfl) rfl) rfl (by decide) ?_
    refine lsk (want_f (dj := 32) (by rfl) (by kernel_rfl) rfl) rfl (by decide) ?_
    refine lsw (want_none (by rfl)) (y_pick true rfl rfl rfl) rfl (by decide) ?_
    refine lg_nil ?_
    refine nx (E' := [(2, _), (3, _), (4, _), (5, _), (6, _), (10, _), (11, _), (36, _)]) (fk rfl (fk rfl (fk rfl (fk rfl (fk rfl (fk rfl (fk rfl (fk rfl fn)))))))) ?_
    refine cg_ct rfl ?_
    refine cg_seq ?_
    refine cg_region ?_
    refine lsw (want_none (by rfl)) (y_move rfl rfl) rfl (by decide) ?_
    refine lsw (want_none (by rfl)) (y_assign rfl rfl) rfl (by decide) ?_
    refine lg_nil ?_
    refine nx (E' := [(2, _), (3, _), (4, _), (5, _), (6, _), (11, _), (10, _)]) (fk rfl (fk rfl (fk rfl (fk rfl (fk rfl (fk rfl (fk rfl fn))))))) ?_
    refine cg_ret ?_
    refine eg_seq_ret ?_
    have u := u.trans (n1.below.mono u.size)
    have u := u.trans (n2.below.mono u.size)
    have u := u.trans (hw3.mono u.size)
    have u := u.trans (hw58.mono u.size)
    exact eg_ret_tmp rfl rfl ⟨_, rfl, rfl, u⟩
end Go.Proofs.Ytpmakacjhoemeaa
