/-
  Unlike places do not touch.
-/
import Derived.Test.YtpoonjgkgaodmaaTrAwake
namespace Go.Proofs.Ytpoonjgkgaodmaa
open Go.ChangeShapes Go.WideShapes Go.ChangeAt Go.RowKit
set_option linter.unusedVariables false

theorem set_tree {a : List Nd} {x : Int} {L : Nd} (h : setE a x L = 0) : trAs (setL a x L) = (trAs a).set x.toNat L := by rw [trAs_ok (trIs_setL a x L), setL_ok h]
theorem set_again {a : List Nd} {x y : Int} {L M : Nd} (h : setE a x L = 0) (h2 : setE a y M = 0) : setE (setL a x L) y M = 0 := by
  have f := set_facts h2
  exact setE_ok (by rw [set_tree h, List.length_set]; exact f.1) f.2.1 f.2.2
theorem set_swap {a : List Nd} {x y : Int} {L M : Nd} (h : setE a x L = 0) (h2 : setE a y M = 0) (hne : ¬ x = y) : setL (setL a x L) y M = setL (setL a y M) x L := by
  have f := (set_facts h).1.le
  have f2 := (set_facts h2).1.le
  rw [setL_ok (set_again h h2), setL_ok (set_again h2 h), set_tree h, set_tree h2]
  exact List.set_comm _ _ (by omega)
theorem set_back {a : List Nd} {x : Int} {L M : Nd} (ht : trIs a) (h : setE a x L = 0) (e : a[x.toNat]? = some M) : setE (setL a x L) x M = 0 ∧ setL (setL a x L) x M = a := by
  have f := set_facts h
  have hi := (List.getElem?_eq_some_iff.1 e).1
  have ok := ht.2 x.toNat hi
  rw [atN_some e] at ok
  have h2 : setE (setL a x L) x M = 0 := setE_ok (by rw [set_tree h, List.length_set]; exact f.1) ok.1 ok.2
  refine ⟨h2, ?_⟩
  rw [setL_ok h2, set_tree h, trAs_ok ht]
  refine list_atN (by rw [List.length_set, List.length_set]) fun j hj => ?_
  rw [atN_set (by rw [List.length_set]; exact hi), atN_set hi]
  split
  · rename_i q
    rw [q, atN_some e]
  · rfl
set_option maxHeartbeats 4000000 in
theorem shapeSets_any {W : World} {s : SlV} {Ls : List Nd} (h : RwNd W W.heap.size s Ls) (x y : Int) {l : NdV} {L : Nd} (hl : IsNd W W.heap.size l L) {m : NdV} {M : Nd} (hm : IsNd W W.heap.size m M) : Calls Try.prog 5 #[s.v, nv x, nv y, .agg (l.cs L), .agg (m.cs M)] W fun e W' => ∃ v, e = .returned v ∧ v = .bool true ∧ Below W.heap.size W W' := by
  refine calls_cg (n := 105) Try.func5 rfl Try.ntmps5 (by simp) ?_
  show CG _ _ _ [(0, s.v), (1, nv x), (2, nv y), (3, .agg (l.cs L)), (4, .agg (m.cs M))] _ _
  have u := Below.refl W.heap.size W
  have q1 := h.len
  have q2 := h.cap
  refine cg_seq ?_
  refine cg_region ?_
  refine lg_boxw (want_none (by rfl)) rfl rfl (by kernel_rfl) rfl (by decide) fun b1 w1 n1 => ?_
  have r1 := n1.row
  have k1 := n1.blk
  have z1 := n1.size
  have lt1 : b1 < w1.heap.size := by omega
  refine lg_boxw (want_none (by rfl)) rfl rfl (by kernel_rfl) rfl (by decide) fun b2 w2 n2 => ?_
  have r2 := n2.row
  have k2 := n2.blk
  have z2 := n2.size
  have lt2 : b2 < w2.heap.size := by omega
  refine lsw (want_none (by rfl)) (y_assign rfl rfl) rfl (by decide) ?_
  refine lg_nil ?_
  refine nx (E' := [(0, _), (1, _), (2, _), (8, _), (9, _), (10, _)]) (fk rfl (fk rfl (fk rfl (fk rfl (fk rfl (fk rfl fn)))))) ?_
  refine cg_seq ?_
  refine cg_region ?_
  refine lg_callw (want_none (by rfl)) (awakeT_any _) (by kernel_rfl) rfl rfl rfl (by decide) ?_
  rintro _ w3 ⟨rfl, hw3⟩
  have zw3 := hw3.size
  refine lsw (want_none (by rfl)) (y_assign rfl rfl) rfl (by decide) ?_
  refine lg_nil ?_
  refine nx (E' := [(0, _), (1, _), (2, _), (8, _), (9, _), (10, _), (11, _)]) (fk rfl (fk rfl (fk rfl (fk rfl (fk rfl (fk rfl (fk rfl fn))))))) ?_
  refine cg_seq ?_
  refine cg_seq ?_
  refine cg_region ?_
  refine lsw (want_none (by rfl)) (y_move rfl rfl) rfl (by decide) ?_
  have h := h.below (n1.below.mono (by omega))
  have h := h.below (n2.below.mono (by omega))
  have h := h.below (hw3.mono (by omega))
  by_cases c4 : trFew Ls
  · refine lg_callw (want_none (by rfl)) (fewR_any (h.more (B' := w3.heap.size) (by omega)) (Nat.le_refl _)) (by kernel_rfl) rfl rfl rfl (by decide) ?_
    rintro u5 w5 ⟨e5, hw5⟩
    have zw5 := hw5.size
    obtain rfl : u5 = .bool true := e5.trans (congrArg Value.bool (decide_eq_true c4))
    refine lsw (want_none (by rfl)) (y_bnot rfl rfl) rfl (by decide) ?_
    refine lsw (want_none (by rfl)) (y_move rfl rfl) rfl (by decide) ?_
    refine lsw (want_t (dj := 26) (by rfl) (by kernel_rfl) rfl) (y_move rfl rfl) rfl (by decide) ?_
    have h := h.below (hw5.mono (by omega))
    by_cases c6 : trIs Ls
    · have htr := c6
      have htl := trIs_le htr
      have hta := trAs_ok htr
      refine lg_callw (want_t (dj := 26) (by rfl) (by kernel_rfl) rfl) (sane_any (h.more (B' := w5.heap.size) (by omega)) (Nat.le_refl _)) (by kernel_rfl) rfl rfl rfl (by decide) ?_
      rintro u7 w7 ⟨e7, hw7⟩
      have zw7 := hw7.size
      obtain rfl : u7 = .bool true := e7.trans (congrArg Value.bool (decide_eq_true c6))
      refine lsw (want_t (dj := 26) (by rfl) (by kernel_rfl) rfl) (y_bnot rfl rfl) rfl (by decide) ?_
      refine lsw (want_none (by rfl)) (y_pick false rfl rfl rfl) rfl (by decide) ?_
      refine lsw (want_none (by rfl)) (y_move rfl rfl) rfl (by decide) ?_
      refine lsw (want_t (dj := 31) (by rfl) (by kernel_rfl) rfl) (y_move rfl rfl) rfl (by decide) ?_
      refine lsw (want_t (dj := 31) (by rfl) (by kernel_rfl) rfl) (y_move rfl rfl) rfl (by decide) ?_
      by_cases c8 : x = y
      · refine lsw (want_t (dj := 31) (by rfl) (by kernel_rfl) rfl) (yb (decide_eq_true c8) (yi_eql rfl rfl rfl)) rfl (by decide) ?_
        refine lsw (want_none (by rfl)) (y_pick false rfl rfl rfl) rfl (by decide) ?_
        refine lg_nil ?_
        refine nx (E' := [(0, _), (1, _), (2, _), (8, _), (9, _), (10, _), (11, _), (35, _)]) (fk rfl (fk rfl (fk rfl (fk rfl (fk rfl (fk rfl (fk rfl (fk rfl fn)))))))) ?_
        refine cg_ct rfl ?_
        refine cg_seq ?_
        refine cg_region ?_
        refine lsw (want_none (by rfl)) (y_move rfl rfl) rfl (by decide) ?_
        refine lsw (want_none (by rfl)) (y_assign rfl rfl) rfl (by decide) ?_
        refine lg_nil ?_
        refine nx (E' := [(0, _), (1, _), (2, _), (8, _), (9, _), (11, _), (10, _)]) (fk rfl (fk rfl (fk rfl (fk rfl (fk rfl (fk rfl (fk rfl fn))))))) ?_
        refine cg_ret ?_
        refine eg_seq_ret ?_
        have u := u.trans (n1.below.mono u.size)
        have u := u.trans (n2.below.mono u.size)
        have u := u.trans (hw3.mono u.size)
        have u := u.trans (hw5.mono u.size)
        have u := u.trans (hw7.mono u.size)
        exact eg_ret_tmp rfl rfl ⟨_, rfl, rfl, u⟩
      · refine lsw (want_t (dj := 31) (by rfl) (by kernel_rfl) rfl) (yb (decide_eq_false c8) (yi_eql rfl rfl rfl)) rfl (by decide) ?_
        refine lsw (want_none (by rfl)) (y_pick false rfl rfl rfl) rfl (by decide) ?_
        refine lg_nil ?_
        refine nx (E' := [(0, _), (1, _), (2, _), (8, _), (9, _), (10, _), (11, _), (35, _)]) (fk rfl (fk rfl (fk rfl (fk rfl (fk rfl (fk rfl (fk rfl (fk rfl fn)))))))) ?_
        refine cg_cf rfl ?_
        refine cg_skip ?_
        refine nx (E' := [(0, _), (1, _), (2, _), (8, _), (9, _), (10, _), (11, _)]) (fk rfl (fk rfl (fk rfl (fk rfl (fk rfl (fk rfl (fk rfl fn))))))) ?_
        refine cg_seq ?_
        refine cg_region ?_
        refine lsw (want_none (by rfl)) (y_move rfl rfl) rfl (by decide) ?_
        refine lsw (want_none (by rfl)) (y_move rfl rfl) rfl (by decide) ?_
        have r1 := n2.keep r1
        have r1 := RowAt.below hw3 r1.lt r1
        have r1 := RowAt.below hw5 r1.lt r1
        have r1 := RowAt.below hw7 r1.lt r1
        refine lsw (want_none (by rfl)) (y_loadA r1 (by kernel_rfl) (by kernel_rfl) rfl rfl) rfl (by decide) ?_
        have h := h.below (hw7.mono (by omega))
        have hl := hl.below (n1.below.mono (by omega))
        have hl := hl.below (n2.below.mono (by omega))
        have hl := hl.below (hw3.mono (by omega))
        have hl := hl.below (hw5.mono (by omega))
        have hl := hl.below (hw7.mono (by omega))
        refine lg_callw (want_none (by rfl)) (set_any (h.more (B' := w7.heap.size) (by omega)) x (hl.more (B' := w7.heap.size) (by omega)) (Nat.le_refl _)) (by kernel_rfl) rfl rfl rfl (by decide) ?_
        rintro _ w9 ⟨s9, rfl, m9, hw9⟩
        have zw9 := hw9.size
        refine lsw (want_none (by rfl)) (y_move rfl rfl) rfl (by decide) ?_
        refine lsw (want_none (by rfl)) (y_extract rfl rfl rfl) rfl (by decide) ?_
        refine lsw (want_none (by rfl)) (y_extract rfl rfl rfl) rfl (by decide) ?_
        refine lsw (want_none (by rfl)) (y_assign rfl rfl) rfl (by decide) ?_
        refine lsw (want_none (by rfl)) (y_assign rfl rfl) rfl (by decide) ?_
        refine lg_nil ?_
        refine nx (E' := [(0, _), (1, _), (2, _), (8, _), (9, _), (10, _), (11, _), (12, _), (13, _)]) (fk rfl (fk rfl (fk rfl (fk rfl (fk rfl (fk rfl (fk rfl (fk rfl (fk rfl fn))))))))) ?_
        refine cg_seq ?_
        refine cg_region ?_
        refine lsw (want_none (by rfl)) (y_move rfl rfl) rfl (by decide) ?_
        refine lsw (want_none (by rfl)) (y_move rfl rfl) rfl (by decide) ?_
        have r2 := RowAt.below hw3 r2.lt r2
        have r2 := RowAt.below hw5 r2.lt r2
        have r2 := RowAt.below hw7 r2.lt r2
        have r2 := RowAt.below hw9 r2.lt r2
        refine lsw (want_none (by rfl)) (y_loadA r2 (by kernel_rfl) (by kernel_rfl) rfl rfl) rfl (by decide) ?_
        have h := h.below (hw9.mono (by omega))
        have hm := hm.below (n1.below.mono (by omega))
        have hm := hm.below (n2.below.mono (by omega))
        have hm := hm.below (hw3.mono (by omega))
        have hm := hm.below (hw5.mono (by omega))
        have hm := hm.below (hw7.mono (by omega))
        have hm := hm.below (hw9.mono (by omega))
        refine lg_callw (want_none (by rfl)) (set_any (h.more (B' := w9.heap.size) (by omega)) y (hm.more (B' := w9.heap.size) (by omega)) (Nat.le_refl _)) (by kernel_rfl) rfl rfl rfl (by decide) ?_
        rintro _ w10 ⟨s10, rfl, m10, hw10⟩
        have zw10 := hw10.size
        refine lsw (want_none (by rfl)) (y_move rfl rfl) rfl (by decide) ?_
        refine lsw (want_none (by rfl)) (y_extract rfl rfl rfl) rfl (by decide) ?_
        refine lsw (want_none (by rfl)) (y_extract rfl rfl rfl) rfl (by decide) ?_
        refine lsw (want_none (by rfl)) (y_assign rfl rfl) rfl (by decide) ?_
        refine lsw (want_none (by rfl)) (y_assign rfl rfl) rfl (by decide) ?_
        refine lg_nil ?_
        refine nx (E' := [(0, _), (1, _), (2, _), (8, _), (9, _), (10, _), (11, _), (12, _), (13, _), (14, _), (15, _)]) (fk rfl (fk rfl (fk rfl (fk rfl (fk rfl (fk rfl (fk rfl (fk rfl (fk rfl (fk rfl (fk rfl fn))))))))))) ?_
        refine cg_seq ?_
        refine cg_seq ?_
        refine cg_region ?_
        refine lsw (want_none (by rfl)) (y_move rfl rfl) rfl (by decide) ?_
        by_cases c11 : (setE Ls x L) = 0
        · refine lsw (want_none (by rfl)) (yb (nd_f c11) (yi_neq rfl rfl rfl)) rfl (by decide) ?_
          refine lsw (want_none (by rfl)) (y_move rfl rfl) rfl (by decide) ?_
          refine lsw (want_t (dj := 53) (by rfl) (by kernel_rfl) rfl) (y_move rfl rfl) rfl (by decide) ?_
          by_cases c12 : (setE Ls y M) = 0
          · have ex := c11
            have ey := c12
            have hx := (set_facts ex).1.le
            rw [hta] at hx
            have sz : (setL Ls x L).length = Ls.length := by rw [setL_ok ex, List.length_set, hta]
            refine lsw (want_t (dj := 53) (by rfl) (by kernel_rfl) rfl) (yb (nd_f c12) (yi_neq rfl rfl rfl)) rfl (by decide) ?_
            refine lsw (want_none (by rfl)) (y_pick false rfl rfl rfl) rfl (by decide) ?_
            refine lg_nil ?_
            refine nx (E' := [(0, _), (1, _), (2, _), (8, _), (9, _), (10, _), (11, _), (12, _), (14, _), (56, _)]) (fk rfl (fk rfl (fk rfl (fk rfl (fk rfl (fk rfl (fk rfl (fk rfl (fk rfl (fk rfl fn)))))))))) ?_
            refine cg_cf rfl ?_
            refine cg_skip ?_
            refine nx (E' := [(0, _), (1, _), (2, _), (8, _), (9, _), (10, _), (11, _), (12, _), (14, _)]) (fk rfl (fk rfl (fk rfl (fk rfl (fk rfl (fk rfl (fk rfl (fk rfl (fk rfl fn))))))))) ?_
            refine cg_seq ?_
            refine cg_region ?_
            refine lsw (want_none (by rfl)) (y_move rfl rfl) rfl (by decide) ?_
            refine lsw (want_none (by rfl)) (y_move rfl rfl) rfl (by decide) ?_
            have r2 := RowAt.below hw10 r2.lt r2
            refine lsw (want_none (by rfl)) (y_loadA r2 (by kernel_rfl) (by kernel_rfl) rfl rfl) rfl (by decide) ?_
            have m9 := m9.below (hw10.mono (by omega))
            have hm := hm.below (hw10.mono (by omega))
            refine lg_callw (want_none (by rfl)) (set_any (m9.more (B' := w10.heap.size) (by omega)) y (hm.more (B' := w10.heap.size) (by omega)) (Nat.le_refl _)) (by kernel_rfl) rfl rfl rfl (by decide) ?_
            rintro _ w13 ⟨s13, rfl, m13, hw13⟩
            have zw13 := hw13.size
            refine lsw (want_none (by rfl)) (y_move rfl rfl) rfl (by decide) ?_
            refine lsw (want_none (by rfl)) (y_extract rfl rfl rfl) rfl (by decide) ?_
            refine lsw (want_none (by rfl)) (y_extract rfl rfl rfl) rfl (by decide) ?_
            refine lsw (want_none (by rfl)) (y_assign rfl rfl) rfl (by decide) ?_
            refine lsw (want_none (by rfl)) (y_assign rfl rfl) rfl (by decide) ?_
            refine lg_nil ?_
            refine nx (E' := [(0, _), (1, _), (8, _), (10, _), (11, _), (12, _), (14, _), (16, _), (17, _)]) (fk rfl (fk rfl (fk rfl (fk rfl (fk rfl (fk rfl (fk rfl (fk rfl (fk rfl fn))))))))) ?_
            refine cg_seq ?_
            refine cg_region ?_
            refine lsw (want_none (by rfl)) (y_move rfl rfl) rfl (by decide) ?_
            refine lsw (want_none (by rfl)) (y_move rfl rfl) rfl (by decide) ?_
            have r1 := RowAt.below hw9 r1.lt r1
            have r1 := RowAt.below hw10 r1.lt r1
            have r1 := RowAt.below hw13 r1.lt r1
            refine lsw (want_none (by rfl)) (y_loadA r1 (by kernel_rfl) (by kernel_rfl) rfl rfl) rfl (by decide) ?_
            have m10 := m10.below (hw13.mono (by omega))
            have hl := hl.below (hw9.mono (by omega))
            have hl := hl.below (hw10.mono (by omega))
            have hl := hl.below (hw13.mono (by omega))
            refine lg_callw (want_none (by rfl)) (set_any (m10.more (B' := w13.heap.size) (by omega)) x (hl.more (B' := w13.heap.size) (by omega)) (Nat.le_refl _)) (by kernel_rfl) rfl rfl rfl (by decide) ?_
            rintro _ w14 ⟨s14, rfl, m14, hw14⟩
            have zw14 := hw14.size
            refine lsw (want_none (by rfl)) (y_move rfl rfl) rfl (by decide) ?_
            refine lsw (want_none (by rfl)) (y_extract rfl rfl rfl) rfl (by decide) ?_
            refine lsw (want_none (by rfl)) (y_extract rfl rfl rfl) rfl (by decide) ?_
            refine lsw (want_none (by rfl)) (y_assign rfl rfl) rfl (by decide) ?_
            refine lsw (want_none (by rfl)) (y_assign rfl rfl) rfl (by decide) ?_
            refine lg_nil ?_
            refine nx (E' := [(0, _), (1, _), (10, _), (11, _), (12, _), (16, _), (17, _), (18, _), (19, _)]) (fk rfl (fk rfl (fk rfl (fk rfl (fk rfl (fk rfl (fk rfl (fk rfl (fk rfl fn))))))))) ?_
            refine cg_seq ?_
            refine cg_region ?_
            refine lsw (want_none (by rfl)) (y_move rfl rfl) rfl (by decide) ?_
            refine lsw (want_none (by rfl)) (y_move rfl rfl) rfl (by decide) ?_
            refine lsw (want_none (by rfl)) (y_move rfl rfl) rfl (by decide) ?_
            refine lsw (want_none (by rfl)) (yv (congrArg nv (show x = ((x.toNat : Nat) : Int) by omega)) (y_move rfl rfl)) rfl (by decide) ?_
            have h := h.below (hw10.mono (by omega))
            have h := h.below (hw13.mono (by omega))
            have h := h.below (hw14.mono (by omega))
            obtain ⟨eb15, eo15, el15, eL15, eA15, eB15, eg15, eh15, ec15⟩ := h.at (x.toNat) (by have := h.len; omega)
            refine lsw (want_none (by rfl)) (y_ixR (s := s) (el := 37) (k := 8) (i := x.toNat) (iI := ((x.toNat : Nat) : Int)) eA15 (by kernel_rfl) (by kernel_rfl) (by omega) (by have := h.len; omega) rfl rfl rfl) rfl (by decide) ?_
            refine lsw (want_none (by rfl)) (y_loadC (cs := el15.cs eL15) ec15 (by kernel_rfl) (by kernel_rfl) rfl rfl) rfl (by decide) ?_
            have m9 := m9.below (hw13.mono (by omega))
            have m9 := m9.below (hw14.mono (by omega))
            refine lg_callw (want_none (by rfl)) (set_any (m9.more (B' := w14.heap.size) (by omega)) x (eh15.more (B' := w14.heap.size) (by omega)) (Nat.le_refl _)) (by kernel_rfl) rfl rfl rfl (by decide) ?_
            rintro _ w16 ⟨s16, rfl, m16, hw16⟩
            have zw16 := hw16.size
            refine lsw (want_none (by rfl)) (y_move rfl rfl) rfl (by decide) ?_
            refine lsw (want_none (by rfl)) (y_extract rfl rfl rfl) rfl (by decide) ?_
            refine lsw (want_none (by rfl)) (y_extract rfl rfl rfl) rfl (by decide) ?_
            refine lsw (want_none (by rfl)) (y_assign rfl rfl) rfl (by decide) ?_
            refine lsw (want_none (by rfl)) (y_assign rfl rfl) rfl (by decide) ?_
            refine lg_nil ?_
            refine nx (E' := [(0, _), (10, _), (11, _), (16, _), (17, _), (18, _), (19, _), (20, _), (21, _)]) (fk rfl (fk rfl (fk rfl (fk rfl (fk rfl (fk rfl (fk rfl (fk rfl (fk rfl fn))))))))) ?_
            refine cg_seq ?_
            refine cg_region ?_
            refine lsw (want_none (by rfl)) (y_move rfl rfl) rfl (by decide) ?_
            refine lsw (want_none (by rfl)) (y_move rfl rfl) rfl (by decide) ?_
            refine lsw (want_t (dj := 83) (by rfl) (by kernel_rfl) rfl) (y_move rfl rfl) rfl (by decide) ?_
            refine lsw (want_t (dj := 83) (by rfl) (by kernel_rfl) rfl) (yb (decide_eq_true (show (setE (setL Ls x L) y M) = 0 from (set_again ex ey))) (yi_eql rfl rfl rfl)) rfl (by decide) ?_
            refine lsw (want_none (by rfl)) (y_pick true rfl rfl rfl) rfl (by decide) ?_
            refine lsw (want_none (by rfl)) (y_move rfl rfl) rfl (by decide) ?_
            refine lsw (want_t (dj := 87) (by rfl) (by kernel_rfl) rfl) (y_move rfl rfl) rfl (by decide) ?_
            refine lsw (want_t (dj := 87) (by rfl) (by kernel_rfl) rfl) (yb (decide_eq_true (show (setE (setL Ls y M) x L) = 0 from (set_again ey ex))) (yi_eql rfl rfl rfl)) rfl (by decide) ?_
            refine lsw (want_none (by rfl)) (y_pick true rfl rfl rfl) rfl (by decide) ?_
            refine lsw (want_none (by rfl)) (y_move rfl rfl) rfl (by decide) ?_
            refine lsw (want_t (dj := 91) (by rfl) (by kernel_rfl) rfl) (y_move rfl rfl) rfl (by decide) ?_
            refine lsw (want_t (dj := 91) (by rfl) (by kernel_rfl) rfl) (yb (decide_eq_true (show (setE (setL Ls x L) x eL15) = 0 from (set_back htr ex eg15).1)) (yi_eql rfl rfl rfl)) rfl (by decide) ?_
            refine lsw (want_none (by rfl)) (y_pick true rfl rfl rfl) rfl (by decide) ?_
            refine lsw (want_none (by rfl)) (y_move rfl rfl) rfl (by decide) ?_
            refine lsw (want_t (dj := 95) (by rfl) (by kernel_rfl) rfl) (y_move rfl rfl) rfl (by decide) ?_
            refine lsw (want_t (dj := 95) (by rfl) (by kernel_rfl) rfl) (y_move rfl rfl) rfl (by decide) ?_
            have m13 := m13.below (hw14.mono (by omega))
            have m13 := m13.below (hw16.mono (by omega))
            have m14 := m14.below (hw16.mono (by omega))
            refine lg_callw (want_t (dj := 95) (by rfl) (by kernel_rfl) rfl) (sameR_any (m13.more (B' := w16.heap.size) (by omega)) (m14.more (B' := w16.heap.size) (by omega)) (Nat.le_refl _)) (by kernel_rfl) rfl rfl rfl (by decide) ?_
            rintro u17 w17 ⟨e17, hw17⟩
            have zw17 := hw17.size
            obtain rfl : u17 = .bool true := e17.trans (congrArg Value.bool (decide_eq_true (show trSame (setL (setL Ls x L) y M) (setL (setL Ls y M) x L) from (by rw [set_swap ex ey c8]; exact tr_same _))))
            refine lsw (want_none (by rfl)) (y_pick true rfl rfl rfl) rfl (by decide) ?_
            refine lsw (want_none (by rfl)) (y_move rfl rfl) rfl (by decide) ?_
            refine lsw (want_t (dj := 100) (by rfl) (by kernel_rfl) rfl) (y_move rfl rfl) rfl (by decide) ?_
            refine lsw (want_t (dj := 100) (by rfl) (by kernel_rfl) rfl) (y_move rfl rfl) rfl (by decide) ?_
            have m16 := m16.below (hw17.mono (by omega))
            have h := h.below (hw16.mono (by omega))
            have h := h.below (hw17.mono (by omega))
            refine lg_callw (want_t (dj := 100) (by rfl) (by kernel_rfl) rfl) (sameR_any (m16.more (B' := w17.heap.size) (by omega)) (h.more (B' := w17.heap.size) (by omega)) (Nat.le_refl _)) (by kernel_rfl) rfl rfl rfl (by decide) ?_
            rintro u18 w18 ⟨e18, hw18⟩
            have zw18 := hw18.size
            obtain rfl : u18 = .bool true := e18.trans (congrArg Value.bool (decide_eq_true (show trSame (setL (setL Ls x L) x eL15) Ls from (by rw [(set_back htr ex eg15).2]; exact tr_same _))))
            refine lsw (want_none (by rfl)) (y_pick true rfl rfl rfl) rfl (by decide) ?_
            refine lsw (want_none (by rfl)) (y_assign rfl rfl) rfl (by decide) ?_
            refine lg_nil ?_
            refine nx (E' := [(10, _)]) (fk rfl fn) ?_
            refine cg_ret ?_
            have u := u.trans (n1.below.mono u.size)
            have u := u.trans (n2.below.mono u.size)
            have u := u.trans (hw3.mono u.size)
            have u := u.trans (hw5.mono u.size)
            have u := u.trans (hw7.mono u.size)
            have u := u.trans (hw9.mono u.size)
            have u := u.trans (hw10.mono u.size)
            have u := u.trans (hw13.mono u.size)
            have u := u.trans (hw14.mono u.size)
            have u := u.trans (hw16.mono u.size)
            have u := u.trans (hw17.mono u.size)
            have u := u.trans (hw18.mono u.size)
            exact eg_ret_tmp rfl rfl ⟨_, rfl, rfl, u⟩
          · refine lsw (want_t (dj := 53) (by rfl) (by kernel_rfl) rfl) (yb (nd_t c12) (yi_neq rfl rfl rfl)) rfl (by decide) ?_
            refine lsw (want_none (by rfl)) (y_pick false rfl rfl rfl) rfl (by decide) ?_
            refine lg_nil ?_
            refine nx (E' := [(0, _), (1, _), (2, _), (8, _), (9, _), (10, _), (11, _), (12, _), (14, _), (56, _)]) (fk rfl (fk rfl (fk rfl (fk rfl (fk rfl (fk rfl (fk rfl (fk rfl (fk rfl (fk rfl fn)))))))))) ?_
            refine cg_ct rfl ?_
            refine cg_seq ?_
            refine cg_region ?_
            refine lsw (want_none (by rfl)) (y_move rfl rfl) rfl (by decide) ?_
            refine lsw (want_none (by rfl)) (y_assign rfl rfl) rfl (by decide) ?_
            refine lg_nil ?_
            refine nx (E' := [(0, _), (1, _), (2, _), (8, _), (9, _), (11, _), (12, _), (14, _), (10, _)]) (fk rfl (fk rfl (fk rfl (fk rfl (fk rfl (fk rfl (fk rfl (fk rfl (fk rfl fn))))))))) ?_
            refine cg_ret ?_
            refine eg_seq_ret ?_
            have u := u.trans (n1.below.mono u.size)
            have u := u.trans (n2.below.mono u.size)
            have u := u.trans (hw3.mono u.size)
            have u := u.trans (hw5.mono u.size)
            have u := u.trans (hw7.mono u.size)
            have u := u.trans (hw9.mono u.size)
            have u := u.trans (hw10.mono u.size)
            exact eg_ret_tmp rfl rfl ⟨_, rfl, rfl, u⟩
        · refine lsw (want_none (by rfl)) (yb (nd_t c11) (yi_neq rfl rfl rfl)) rfl (by decide) ?_
          refine lsw (want_none (by rfl)) (y_move rfl rfl) rfl (by decide) ?_
          refine lsk (want_f (dj := 53) (by rfl) (by kernel_rfl) rfl) rfl (by decide) ?_
          refine lsk (want_f (dj := 53) (by rfl) (by kernel_rfl) rfl) rfl (by decide) ?_
          refine lsw (want_none (by rfl)) (y_pick true rfl rfl rfl) rfl (by decide) ?_
          refine lg_nil ?_
          refine nx (E' := [(0, _), (1, _), (2, _), (8, _), (9, _), (10, _), (11, _), (12, _), (14, _), (56, _)]) (fk rfl (fk rfl (fk rfl (fk rfl (fk rfl (fk rfl (fk rfl (fk rfl (fk rfl (fk rfl fn)))))))))) ?_
          refine cg_ct rfl ?_
          refine cg_seq ?_
          refine cg_region ?_
          refine lsw (want_none (by rfl)) (y_move rfl rfl) rfl (by decide) ?_
          refine lsw (want_none (by rfl)) (y_assign rfl rfl) rfl (by decide) ?_
          refine lg_nil ?_
          refine nx (E' := [(0, _), (1, _), (2, _), (8, _), (9, _), (11, _), (12, _), (14, _), (10, _)]) (fk rfl (fk rfl (fk rfl (fk rfl (fk rfl (fk rfl (fk rfl (fk rfl (fk rfl fn))))))))) ?_
          refine cg_ret ?_
          refine eg_seq_ret ?_
          have u := u.trans (n1.below.mono u.size)
          have u := u.trans (n2.below.mono u.size)
          have u := u.trans (hw3.mono u.size)
          have u := u.trans (hw5.mono u.size)
          have u := u.trans (hw7.mono u.size)
          have u := u.trans (hw9.mono u.size)
          have u := u.trans (hw10.mono u.size)
          exact eg_ret_tmp rfl rfl ⟨_, rfl, rfl, u⟩
    · refine lg_callw (want_t (dj := 26) (by rfl) (by kernel_rfl) rfl) (sane_any (h.more (B' := w5.heap.size) (by omega)) (Nat.le_refl _)) (by kernel_rfl) rfl rfl rfl (by decide) ?_
      rintro u19 w19 ⟨e19, hw19⟩
      have zw19 := hw19.size
      obtain rfl : u19 = .bool false := e19.trans (congrArg Value.bool (decide_eq_false c6))
      refine lsw (want_t (dj := 26) (by rfl) (by kernel_rfl) rfl) (y_bnot rfl rfl) rfl (by decide) ?_
      refine lsw (want_none (by rfl)) (y_pick false rfl rfl rfl) rfl (by decide) ?_
      refine lsw (want_none (by rfl)) (y_move rfl rfl) rfl (by decide) ?_
      refine lsk (want_f (dj := 31) (by rfl) (by kernel_rfl) rfl) rfl (by decide) ?_
      refine lsk (want_f (dj := 31) (by rfl) (by kernel_rfl) rfl) rfl (by decide) ?_
      refine lsk (want_f (dj := 31) (by rfl) (by kernel_rfl) rfl) rfl (by decide) ?_
      refine lsw (want_none (by rfl)) (y_pick true rfl rfl rfl) rfl (by decide) ?_
      refine lg_nil ?_
      refine nx (E' := [(0, _), (1, _), (2, _), (8, _), (9, _), (10, _), (11, _), (35, _)]) (fk rfl (fk rfl (fk rfl (fk rfl (fk rfl (fk rfl (fk rfl (fk rfl fn)))))))) ?_
      refine cg_ct rfl ?_
      refine cg_seq ?_
      refine cg_region ?_
      refine lsw (want_none (by rfl)) (y_move rfl rfl) rfl (by decide) ?_
      refine lsw (want_none (by rfl)) (y_assign rfl rfl) rfl (by decide) ?_
      refine lg_nil ?_
      refine nx (E' := [(0, _), (1, _), (2, _), (8, _), (9, _), (11, _), (10, _)]) (fk rfl (fk rfl (fk rfl (fk rfl (fk rfl (fk rfl (fk rfl fn))))))) ?_
      refine cg_ret ?_
      refine eg_seq_ret ?_
      have u := u.trans (n1.below.mono u.size)
      have u := u.trans (n2.below.mono u.size)
      have u := u.trans (hw3.mono u.size)
      have u := u.trans (hw5.mono u.size)
      have u := u.trans (hw19.mono u.size)
      exact eg_ret_tmp rfl rfl ⟨_, rfl, rfl, u⟩
  · refine lg_callw (want_none (by rfl)) (fewR_any (h.more (B' := w3.heap.size) (by omega)) (Nat.le_refl _)) (by kernel_rfl) rfl rfl rfl (by decide) ?_
    rintro u20 w20 ⟨e20, hw20⟩
    have zw20 := hw20.size
    obtain rfl : u20 = .bool false := e20.trans (congrArg Value.bool (decide_eq_false c4))
    refine lsw (want_none (by rfl)) (y_bnot rfl rfl) rfl (by decide) ?_
    refine lsw (want_none (by rfl)) (y_move rfl rfl) rfl (by decide) ?_
    refine lsk (want_f (dj := 26) (by rfl) (by kernel_rfl) rfl) rfl (by decide) ?_
    refine lsk (want_f (dj := 26) (by rfl) (by kernel_rfl) rfl) rfl (by decide) ?_
    refine lsk (want_f (dj := 26) (by rfl) (by kernel_rfl) rfl) rfl (by decide) ?_
    refine lsw (want_none (by rfl)) (y_pick true rfl rfl rfl) rfl (by decide) ?_
    refine lsw (want_none (by rfl)) (y_move rfl rfl) rfl (by decide) ?_
    refine lsk (want_f (dj := 31) (by rfl) (by kernel_rfl) rfl) rfl (by decide) ?_
    refine lsk (want_f (dj := 31) (by rfl) (by kernel_rfl) rfl) rfl (by decide) ?_
    refine lsk (want_f (dj := 31) (by rfl) (by kernel_rfl) rfl) rfl (by decide) ?_
    refine lsw (want_none (by rfl)) (y_pick true rfl rfl rfl) rfl (by decide) ?_
    refine lg_nil ?_
    refine nx (E' := [(0, _), (1, _), (2, _), (8, _), (9, _), (10, _), (11, _), (35, _)]) (fk rfl (fk rfl (fk rfl (fk rfl (fk rfl (fk rfl (fk rfl (fk rfl fn)))))))) ?_
    refine cg_ct rfl ?_
    refine cg_seq ?_
    refine cg_region ?_
    refine lsw (want_none (by rfl)) (y_move rfl rfl) rfl (by decide) ?_
    refine lsw (want_none (by rfl)) (y_assign rfl rfl) rfl (by decide) ?_
    refine lg_nil ?_
    refine nx (E' := [(0, _), (1, _), (2, _), (8, _), (9, _), (11, _), (10, _)]) (fk rfl (fk rfl (fk rfl (fk rfl (fk rfl (fk rfl (fk rfl fn))))))) ?_
    refine cg_ret ?_
    refine eg_seq_ret ?_
    have u := u.trans (n1.below.mono u.size)
    have u := u.trans (n2.below.mono u.size)
    have u := u.trans (hw3.mono u.size)
    have u := u.trans (hw20.mono u.size)
    exact eg_ret_tmp rfl rfl ⟨_, rfl, rfl, u⟩
end Go.Proofs.Ytpoonjgkgaodmaa
