/-
  All leaves are reached.
-/
import Derived.Test.YtjcnfmmekpiliaaDoorRsAwake
namespace Go.Proofs.YtjcnfmmekpiliaaDoor
open Go.ChangeShapes Go.WideShapes Go.ChangeAt Go.RowKit
set_option linter.unusedVariables false

theorem odd_inner {a : List Nd} (h : trIs a) {i : Nat} (ho : i % 2 = 1) (hk : (atN a i).kind ≠ 0) : (atN a i).kind = 2 := by
  have := ok_kind (trIs_ok h i)
  omega
set_option maxHeartbeats 4000000 in
theorem resolveCovers_any {W : World} {s : SlV} {Ls : List Nd} (h : RwNd W W.heap.size s Ls) (x : Int) (rg : Tb W) : Calls Tryd.prog 4 #[s.v, nv x] W fun e W' => ∃ v, e = .returned v ∧ v = .bool true ∧ Below W.heap.size W W' := by
  refine calls_cg (n := 142) Tryd.func4 rfl Tryd.ntmps4 (by simp) ?_
  show CG _ _ _ [(0, s.v), (1, nv x)] _ _
  have u := Below.refl W.heap.size W
  have q1 := h.len
  have q2 := h.cap
  refine cg_seq ?_
  refine cg_region ?_
  refine zA rfl rfl rfl rfl rfl ?_
  refine lg_nil ?_
  refine nx (zk3 0 1 4 rfl rfl rfl fn) ?_
  refine cg_seq ?_
  refine cg_region ?_
  refine lg_callw (want_none (by rfl)) (awakeR_any _ (rg.up u)) (by kernel_rfl) rfl rfl rfl (by decide) ?_
  rintro _ w1 ⟨rfl, hw1⟩
  have zw1 := hw1.size
  refine zA rfl rfl rfl rfl rfl ?_
  refine lg_nil ?_
  refine nx (zk3 0 1 4 rfl rfl rfl (zk1 5 rfl fn)) ?_
  refine cg_seq ?_
  refine cg_seq ?_
  refine cg_region ?_
  refine zM rfl rfl rfl rfl rfl ?_
  have h := h.below (hw1.mono (by omega))
  by_cases c2 : trFew Ls
  · refine lg_callw (want_none (by rfl)) (fewR_any (h.more (B' := w1.heap.size) (by omega)) (Nat.le_refl _)) (by kernel_rfl) rfl rfl rfl (by decide) ?_
    rintro u3 w3 ⟨e3, hw3⟩
    have zw3 := hw3.size
    obtain rfl : u3 = .bool true := e3.trans (congrArg Value.bool (decide_eq_true c2))
    refine za rfl (y_bnot rfl rfl) rfl rfl ?_
    refine zM rfl rfl rfl rfl rfl ?_
    refine zt 15 rfl (by kernel_rfl) rfl (y_move rfl rfl) rfl rfl ?_
    have h := h.below (hw3.mono (by omega))
    by_cases c4 : trIs Ls
    · have htr := c4
      have htl := trIs_le htr
      have hta := trAs_ok htr
      refine lg_callw (want_t (dj := 15) (by rfl) (by kernel_rfl) rfl) (sane_any (h.more (B' := w3.heap.size) (by omega)) (Nat.le_refl _)) (by kernel_rfl) rfl rfl rfl (by decide) ?_
      rintro u5 w5 ⟨e5, hw5⟩
      have zw5 := hw5.size
      obtain rfl : u5 = .bool true := e5.trans (congrArg Value.bool (decide_eq_true c4))
      refine zt 15 rfl (by kernel_rfl) rfl (y_bnot rfl rfl) rfl rfl ?_
      refine za rfl (y_pick false rfl rfl rfl) rfl rfl ?_
      refine zM rfl rfl rfl rfl rfl ?_
      refine zt 20 rfl (by kernel_rfl) rfl (y_move rfl rfl) rfl rfl ?_
      refine zt 20 rfl (by kernel_rfl) rfl (y_move rfl rfl) rfl rfl ?_
      have h := h.below (hw5.mono (by omega))
      refine zt 20 rfl (by kernel_rfl) rfl (y_lenM (el := 36) h.len (by kernel_rfl) rfl rfl) rfl rfl ?_
      by_cases c6 : isN x (Ls.length : Int)
      · have hx := c6
        have lex := hx.le
        refine zt 20 rfl (by kernel_rfl) rfl (yb (decide_eq_true c6) (y_call (isL_any x (Ls.length : Int) _) (by kernel_rfl) rfl rfl)) rfl rfl ?_
        refine zt 20 rfl (by kernel_rfl) rfl (y_bnot rfl rfl) rfl rfl ?_
        refine za rfl (y_pick false rfl rfl rfl) rfl rfl ?_
        refine lg_nil ?_
        refine nx (zk5 0 1 4 5 26 rfl rfl rfl rfl rfl fn) ?_
        refine cg_cf rfl ?_
        refine cg_skip ?_
        refine nx (zk3 0 1 4 rfl rfl rfl (zk1 5 rfl fn)) ?_
        refine cg_seq ?_
        refine cg_region ?_
        refine zM rfl rfl rfl rfl rfl ?_
        refine zM rfl rfl rfl rfl rfl ?_
        have u := u.trans (hw1.mono u.size)
        have u := u.trans (hw3.mono u.size)
        have u := u.trans (hw5.mono u.size)
        refine lg_callw (want_none (by rfl)) (resolve_any (h.more (B' := w5.heap.size) (by omega)) x (Nat.le_refl _) (rg.up u)) (by kernel_rfl) rfl rfl rfl (by decide) ?_
        rintro _ w7 ⟨s7, rfl, m7, hw7⟩
        have zw7 := hw7.size
        have rl7 := res_len (trAs_is Ls) x
        rw [trAs_ok htr] at m7 rl7
        refine zA rfl rfl rfl rfl rfl ?_
        refine lg_nil ?_
        refine nx (zk5 0 1 4 5 6 rfl rfl rfl rfl rfl fn) ?_
        refine cg_seq ?_
        refine cg_seq ?_
        refine cg_region ?_
        refine zA rfl rfl rfl rfl rfl ?_
        refine lg_nil ?_
        refine nx (zk5 0 1 4 5 6 rfl rfl rfl rfl rfl (zk1 7 rfl fn)) ?_
        refine cg_block ?_
        obtain ⟨C, hC⟩ : ∃ q, q = w7.heap.size := ⟨_, rfl⟩
        have h := h.below (hw7.mono (by omega))
        have u := u.trans (hw7.mono u.size)
        refine cg_loopE (fun t a v => Holds 142 [(0, s.v), (1, nv x), (5, .bool true), (6, s7.v), (7, nv ((2 * t : Nat) : Int))] a ∧ RwNd v W.heap.size s Ls ∧ Below W.heap.size W v ∧ C ≤ v.heap.size ∧ W.heap.size ≤ C ∧ SlN v C s7 (resL Ls x)) (Ls.length + 1) (fun a ha => ⟨ha.keep (fk rfl (fk rfl (fk rfl (fk rfl (fk rfl fn))))), h, u, (Nat.le_of_eq hC), (by omega), (m7.more (by omega))⟩) ?_
        rintro t a v ht ⟨ha, h, u, cC, cW, hl⟩
        refine cg_at ha ?_
        clear ha a
        have zv := u.size
        have ll := hl.len
        have lb := hl.cap
        have q1 := h.len
        have q2 := h.cap
        refine cg_seq ?_
        refine cg_seq ?_
        refine cg_region ?_
        refine zM rfl rfl rfl rfl rfl ?_
        refine zM rfl rfl rfl rfl rfl ?_
        refine za rfl (y_lenM (el := 36) h.len (by kernel_rfl) rfl rfl) rfl rfl ?_
        by_cases c8 : ((2 * t : Nat) : Int) < (Ls.length : Int)
        · refine za rfl (yb (decide_eq_true c8) (yi_lss rfl rfl rfl)) rfl rfl ?_
          refine lg_nil ?_
          refine nx (zk5 0 1 5 6 7 rfl rfl rfl rfl rfl (zk1 34 rfl fn)) ?_
          refine cg_ct rfl ?_
          refine cg_skip ?_
          refine nx (zk5 0 1 5 6 7 rfl rfl rfl rfl rfl fn) ?_
          refine cg_seq ?_
          refine cg_block ?_
          refine cg_seq ?_
          refine cg_seq ?_
          refine cg_region ?_
          refine zM rfl rfl rfl rfl rfl ?_
          refine zM rfl rfl rfl rfl rfl ?_
          obtain ⟨eb9, eo9, el9, eL9, eA9, eB9, eg9, eh9, ec9⟩ := h.at ((2 * t)) (by have := h.len; omega)
          refine za rfl (y_ixR (s := s) (el := 36) (k := 8) (i := (2 * t)) (iI := ((2 * t : Nat) : Int)) eA9 (by kernel_rfl) (by kernel_rfl) (by omega) (by have := h.len; omega) rfl rfl rfl) rfl rfl ?_
          refine za rfl (y_fld (off := 0) (by kernel_rfl) rfl rfl) rfl rfl ?_
          refine za rfl (y_celld (ec9 0 _ rfl) (by kernel_rfl) rfl rfl) rfl rfl ?_
          by_cases c10 : eL9.kind = 0
          · refine za rfl (yb (decide_eq_true c10) (yi_eql rfl rfl rfl)) rfl rfl ?_
            refine zM rfl rfl rfl rfl rfl ?_
            refine zf 43 rfl (by kernel_rfl) rfl rfl rfl ?_
            refine zf 43 rfl (by kernel_rfl) rfl rfl rfl ?_
            refine zf 43 rfl (by kernel_rfl) rfl rfl rfl ?_
            refine zf 43 rfl (by kernel_rfl) rfl rfl rfl ?_
            refine zf 43 rfl (by kernel_rfl) rfl rfl rfl ?_
            refine zf 43 rfl (by kernel_rfl) rfl rfl rfl ?_
            refine za rfl (y_pick true rfl rfl rfl) rfl rfl ?_
            refine lg_nil ?_
            refine nx (zk5 0 1 5 6 7 rfl rfl rfl rfl rfl (zk1 50 rfl fn)) ?_
            refine cg_ct rfl ?_
            refine cg_exit ?_
            refine eg_seq_exit ?_
            refine eg_block_exit ?_
            refine nx (zk5 0 1 5 6 7 rfl rfl rfl rfl rfl fn) ?_
            refine cg_region ?_
            refine zM rfl rfl rfl rfl rfl ?_
            refine za rfl (yv (congrArg nv (show ((2 * t : Nat) : Int) + 2 = ((2 * (t + 1) : Nat) : Int) by omega)) (yi_add rfl rfl rfl (by omega) (by omega))) rfl rfl ?_
            refine zA rfl rfl rfl rfl rfl ?_
            refine lg_nil ?_
            exact fun a ha => (show t < (Ls.length + 1) ∧ _ from ⟨(by omega), ha.keep (fk rfl (fk rfl (fk rfl (fk rfl (fk rfl fn))))), h, u, cC, cW, hl⟩)
          · refine za rfl (yb (decide_eq_false c10) (yi_eql rfl rfl rfl)) rfl rfl ?_
            refine zM rfl rfl rfl rfl rfl ?_
            refine zt 43 rfl (by kernel_rfl) rfl (y_move rfl rfl) rfl rfl ?_
            refine zt 43 rfl (by kernel_rfl) rfl (y_move rfl rfl) rfl rfl ?_
            refine zt 43 rfl (by kernel_rfl) rfl (y_move rfl rfl) rfl rfl ?_
            refine zt 43 rfl (by kernel_rfl) rfl (y_lenM (el := 36) h.len (by kernel_rfl) rfl rfl) rfl rfl ?_
            by_cases c11 : undI ((2 * t : Nat) : Int) x (Ls.length : Int)
            · have hcov := res_cover hx (show (atN Ls (((2 * t : Nat) : Int)).toNat).kind ≠ 0 by rw [Int.toNat_natCast, atN_some eg9]; exact c10) c11
              refine lg_callw (want_t (dj := 43) (by rfl) (by kernel_rfl) rfl) (under_any ((2 * t : Nat) : Int) x (Ls.length : Int) _ (rg.up u)) (by kernel_rfl) rfl rfl rfl (by decide) ?_
              rintro u12 w12 ⟨e12, hw12⟩
              have zw12 := hw12.size
              obtain rfl : u12 = .bool true := e12.trans (congrArg Value.bool (decide_eq_true c11))
              refine zt 43 rfl (by kernel_rfl) rfl (y_bnot rfl rfl) rfl rfl ?_
              refine za rfl (y_pick false rfl rfl rfl) rfl rfl ?_
              refine lg_nil ?_
              refine nx (zk5 0 1 5 6 7 rfl rfl rfl rfl rfl (zk1 50 rfl fn)) ?_
              refine cg_cf rfl ?_
              refine cg_skip ?_
              refine nx (zk5 0 1 5 6 7 rfl rfl rfl rfl rfl fn) ?_
              refine cg_seq ?_
              refine cg_region ?_
              refine zA rfl rfl rfl rfl rfl ?_
              refine lg_nil ?_
              refine nx (zk5 0 1 5 6 7 rfl rfl rfl rfl rfl (zk1 8 rfl fn)) ?_
              refine cg_seq ?_
              refine cg_seq ?_
              refine cg_region ?_
              refine zA rfl rfl rfl rfl rfl ?_
              refine lg_nil ?_
              refine nx (zk5 0 1 5 6 7 rfl rfl rfl rfl rfl (zk2 8 9 rfl rfl fn)) ?_
              refine cg_block ?_
              have h := h.below (hw12.mono (by omega))
              have u := u.trans (hw12.mono u.size)
              have cC := (show C ≤ w12.heap.size by omega)
              have cW := cW
              have hl := hl.below (hw12.mono (by omega))
              refine cg_loopE (fun j a v => ∃ (M : Nat), Holds 142 [(0, s.v), (1, nv x), (5, .bool true), (6, s7.v), (7, nv ((2 * t : Nat) : Int)), (8, nv ((M : Nat) : Int)), (9, nv ((j : Nat) : Int))] a ∧ RwNd v W.heap.size s Ls ∧ Below W.heap.size W v ∧ C ≤ v.heap.size ∧ W.heap.size ≤ C ∧ SlN v C s7 (resL Ls x) ∧ M = cntU ((2 * t : Nat) : Int) (Ls.length : Int) ((resL Ls x).take j) ∧ j ≤ (resL Ls x).length) ((resL Ls x).length + 1) (fun a ha => ⟨0, ha.keep (fk rfl (fk rfl (fk rfl (fk rfl (fk rfl (fk rfl (fk rfl fn))))))), h, u, cC, cW, hl, rfl, (Nat.zero_le _)⟩) ?_
              rintro j a v ht ⟨M, ha, h, u, cC, cW, hl, hM, hj⟩
              refine cg_at ha ?_
              clear ha a
              have zv := u.size
              have ll := hl.len
              have lb := hl.cap
              have q1 := h.len
              have q2 := h.cap
              have ml : M ≤ (resL Ls x).length := by rw [hM]; exact Nat.le_trans (cntU_le _ _ _) (by rw [List.length_take]; omega)
              refine cg_seq ?_
              refine cg_seq ?_
              refine cg_region ?_
              refine zM rfl rfl rfl rfl rfl ?_
              refine zM rfl rfl rfl rfl rfl ?_
              refine za rfl (y_lenM (el := 3) hl.len (by kernel_rfl) rfl rfl) rfl rfl ?_
              by_cases c13 : ((j : Nat) : Int) < ((resL Ls x).length : Int)
              · refine za rfl (yb (decide_eq_true c13) (yi_lss rfl rfl rfl)) rfl rfl ?_
                refine lg_nil ?_
                refine nx (zk5 0 1 5 6 7 rfl rfl rfl rfl rfl (zk3 8 9 54 rfl rfl rfl fn)) ?_
                refine cg_ct rfl ?_
                refine cg_skip ?_
                refine nx (zk5 0 1 5 6 7 rfl rfl rfl rfl rfl (zk2 8 9 rfl rfl fn)) ?_
                refine cg_seq ?_
                refine cg_block ?_
                refine cg_seq ?_
                refine cg_region ?_
                refine zM rfl rfl rfl rfl rfl ?_
                refine zM rfl rfl rfl rfl rfl ?_
                refine zM rfl rfl rfl rfl rfl ?_
                refine za rfl (y_ixT (i := j) (iI := ((j : Nat) : Int)) hl (by omega) (by first | omega | (simp only [List.length_append, List.length_cons, List.length_nil]; omega)) rfl rfl rfl) rfl rfl ?_
                refine za rfl (y_ldT (i := j) hl (by first | omega | (simp only [List.length_append, List.length_cons, List.length_nil]; omega)) rfl rfl) rfl rfl ?_
                refine zM rfl rfl rfl rfl rfl ?_
                refine za rfl (y_lenM (el := 36) h.len (by kernel_rfl) rfl rfl) rfl rfl ?_
                by_cases c14 : undI ((2 * t : Nat) : Int) ((resL Ls x).getD j 0) (Ls.length : Int)
                · refine lg_callw (want_none (by rfl)) (under_any ((2 * t : Nat) : Int) ((resL Ls x).getD j 0) (Ls.length : Int) _ (rg.up u)) (by kernel_rfl) rfl rfl rfl (by decide) ?_
                  rintro u15 w15 ⟨e15, hw15⟩
                  have zw15 := hw15.size
                  obtain rfl : u15 = .bool true := e15.trans (congrArg Value.bool (decide_eq_true c14))
                  refine lg_nil ?_
                  refine nx (zk5 0 1 5 6 7 rfl rfl rfl rfl rfl (zk3 8 9 64 rfl rfl rfl fn)) ?_
                  refine cg_ct rfl ?_
                  refine cg_region ?_
                  refine zM rfl rfl rfl rfl rfl ?_
                  refine za rfl (yv (congrArg nv (show ((M : Nat) : Int) + 1 = ((M + 1 : Nat) : Int) by omega)) (yi_add rfl rfl rfl (by omega) (by omega))) rfl rfl ?_
                  refine zA rfl rfl rfl rfl rfl ?_
                  refine lg_nil ?_
                  refine eg_block_norm ?_
                  refine nx (zk5 0 1 5 6 7 rfl rfl rfl rfl rfl (zk2 9 8 rfl rfl fn)) ?_
                  refine cg_region ?_
                  refine zM rfl rfl rfl rfl rfl ?_
                  refine za rfl (yv (congrArg nv (show ((j : Nat) : Int) + 1 = ((j + 1 : Nat) : Int) by omega)) (yi_add rfl rfl rfl (by omega) (by omega))) rfl rfl ?_
                  refine zA rfl rfl rfl rfl rfl ?_
                  refine lg_nil ?_
                  have h := h.below (hw15.mono (by omega))
                  have u := u.trans (hw15.mono u.size)
                  have cC := (show C ≤ w15.heap.size by omega)
                  have cW := cW
                  have hl := hl.below (hw15.mono (by omega))
                  exact fun a ha => (show j < ((resL Ls x).length + 1) ∧ _ from ⟨(by omega), (M + 1), ha.keep (fk rfl (fk rfl (fk rfl (fk rfl (fk rfl (fk rfl (fk rfl fn))))))), h, u, cC, cW, hl, (by rw [hM, take_succ_getD _ _ (by omega), cntU_snoc, if_pos c14]), (by omega)⟩)
                · refine lg_callw (want_none (by rfl)) (under_any ((2 * t : Nat) : Int) ((resL Ls x).getD j 0) (Ls.length : Int) _ (rg.up u)) (by kernel_rfl) rfl rfl rfl (by decide) ?_
                  rintro u16 w16 ⟨e16, hw16⟩
                  have zw16 := hw16.size
                  obtain rfl : u16 = .bool false := e16.trans (congrArg Value.bool (decide_eq_false c14))
                  refine lg_nil ?_
                  refine nx (zk5 0 1 5 6 7 rfl rfl rfl rfl rfl (zk3 8 9 64 rfl rfl rfl fn)) ?_
                  refine cg_cf rfl ?_
                  refine cg_skip ?_
                  refine eg_block_norm ?_
                  refine nx (zk5 0 1 5 6 7 rfl rfl rfl rfl rfl (zk2 8 9 rfl rfl fn)) ?_
                  refine cg_region ?_
                  refine zM rfl rfl rfl rfl rfl ?_
                  refine za rfl (yv (congrArg nv (show ((j : Nat) : Int) + 1 = ((j + 1 : Nat) : Int) by omega)) (yi_add rfl rfl rfl (by omega) (by omega))) rfl rfl ?_
                  refine zA rfl rfl rfl rfl rfl ?_
                  refine lg_nil ?_
                  have h := h.below (hw16.mono (by omega))
                  have u := u.trans (hw16.mono u.size)
                  have cC := (show C ≤ w16.heap.size by omega)
                  have cW := cW
                  have hl := hl.below (hw16.mono (by omega))
                  exact fun a ha => (show j < ((resL Ls x).length + 1) ∧ _ from ⟨(by omega), M, ha.keep (fk rfl (fk rfl (fk rfl (fk rfl (fk rfl (fk rfl (fk rfl fn))))))), h, u, cC, cW, hl, (by rw [hM, take_succ_getD _ _ (by omega), cntU_snoc, if_neg c14, Nat.add_zero]), (by omega)⟩)
              · refine za rfl (yb (decide_eq_false c13) (yi_lss rfl rfl rfl)) rfl rfl ?_
                refine lg_nil ?_
                refine nx (zk5 0 1 5 6 7 rfl rfl rfl rfl rfl (zk3 8 9 54 rfl rfl rfl fn)) ?_
                refine cg_cf rfl ?_
                obtain rfl : j = (resL Ls x).length := by omega
                rw [List.take_length] at hM
                refine cg_exit ?_
                refine eg_seq_exit ?_
                refine eg_seq_exit ?_
                refine eg_block_exit ?_
                refine nx (zk5 0 1 5 6 7 rfl rfl rfl rfl rfl (zk1 8 rfl fn)) ?_
                refine cg_seq ?_
                refine cg_region ?_
                refine zM rfl rfl rfl rfl rfl ?_
                refine za rfl (yb (decide_eq_false (show ¬ (((M : Nat) : Int) = 0) from (by omega))) (yi_eql rfl rfl rfl)) rfl rfl ?_
                refine lg_nil ?_
                refine nx (zk5 0 1 5 6 7 rfl rfl rfl rfl rfl (zk1 68 rfl fn)) ?_
                refine cg_cf rfl ?_
                refine cg_skip ?_
                refine eg_block_norm ?_
                refine nx (zk5 0 1 5 6 7 rfl rfl rfl rfl rfl fn) ?_
                refine cg_region ?_
                refine zM rfl rfl rfl rfl rfl ?_
                refine za rfl (yv (congrArg nv (show ((2 * t : Nat) : Int) + 2 = ((2 * (t + 1) : Nat) : Int) by omega)) (yi_add rfl rfl rfl (by omega) (by omega))) rfl rfl ?_
                refine zA rfl rfl rfl rfl rfl ?_
                refine lg_nil ?_
                exact fun a ha => (show t < (Ls.length + 1) ∧ _ from ⟨(by omega), ha.keep (fk rfl (fk rfl (fk rfl (fk rfl (fk rfl fn))))), h, u, cC, cW, hl⟩)
            · refine lg_callw (want_t (dj := 43) (by rfl) (by kernel_rfl) rfl) (under_any ((2 * t : Nat) : Int) x (Ls.length : Int) _ (rg.up u)) (by kernel_rfl) rfl rfl rfl (by decide) ?_
              rintro u17 w17 ⟨e17, hw17⟩
              have zw17 := hw17.size
              obtain rfl : u17 = .bool false := e17.trans (congrArg Value.bool (decide_eq_false c11))
              refine zt 43 rfl (by kernel_rfl) rfl (y_bnot rfl rfl) rfl rfl ?_
              refine za rfl (y_pick false rfl rfl rfl) rfl rfl ?_
              refine lg_nil ?_
              refine nx (zk5 0 1 5 6 7 rfl rfl rfl rfl rfl (zk1 50 rfl fn)) ?_
              refine cg_ct rfl ?_
              refine cg_exit ?_
              refine eg_seq_exit ?_
              refine eg_block_exit ?_
              refine nx (zk5 0 1 5 6 7 rfl rfl rfl rfl rfl fn) ?_
              refine cg_region ?_
              refine zM rfl rfl rfl rfl rfl ?_
              refine za rfl (yv (congrArg nv (show ((2 * t : Nat) : Int) + 2 = ((2 * (t + 1) : Nat) : Int) by omega)) (yi_add rfl rfl rfl (by omega) (by omega))) rfl rfl ?_
              refine zA rfl rfl rfl rfl rfl ?_
              refine lg_nil ?_
              have h := h.below (hw17.mono (by omega))
              have u := u.trans (hw17.mono u.size)
              have cC := (show C ≤ w17.heap.size by omega)
              have cW := cW
              have hl := hl.below (hw17.mono (by omega))
              exact fun a ha => (show t < (Ls.length + 1) ∧ _ from ⟨(by omega), ha.keep (fk rfl (fk rfl (fk rfl (fk rfl (fk rfl fn))))), h, u, cC, cW, hl⟩)
        · refine za rfl (yb (decide_eq_false c8) (yi_lss rfl rfl rfl)) rfl rfl ?_
          refine lg_nil ?_
          refine nx (zk5 0 1 5 6 7 rfl rfl rfl rfl rfl (zk1 34 rfl fn)) ?_
          refine cg_cf rfl ?_
          refine cg_exit ?_
          refine eg_seq_exit ?_
          refine eg_seq_exit ?_
          refine eg_block_exit ?_
          refine nx (zk3 0 1 5 rfl rfl rfl (zk1 6 rfl fn)) ?_
          refine cg_seq ?_
          refine cg_seq ?_
          refine cg_region ?_
          refine zA rfl rfl rfl rfl rfl ?_
          refine lg_nil ?_
          refine nx (zk5 0 1 5 6 10 rfl rfl rfl rfl rfl fn) ?_
          refine cg_block ?_
          refine cg_loopE (fun t a v => Holds 142 [(0, s.v), (1, nv x), (5, .bool true), (6, s7.v), (10, nv ((t : Nat) : Int))] a ∧ RwNd v W.heap.size s Ls ∧ Below W.heap.size W v ∧ C ≤ v.heap.size ∧ W.heap.size ≤ C ∧ SlN v C s7 (resL Ls x) ∧ t ≤ (resL Ls x).length) ((resL Ls x).length + 1) (fun a ha => ⟨ha.keep (fk rfl (fk rfl (fk rfl (fk rfl (fk rfl fn))))), h, u, cC, cW, hl, (Nat.zero_le _)⟩) ?_
          rintro t a v ht ⟨ha, h, u, cC, cW, hl, htl2⟩
          refine cg_at ha ?_
          clear ha a
          have zv := u.size
          have ll := hl.len
          have lb := hl.cap
          have q1 := h.len
          have q2 := h.cap
          refine cg_seq ?_
          refine cg_seq ?_
          refine cg_region ?_
          refine zM rfl rfl rfl rfl rfl ?_
          refine zM rfl rfl rfl rfl rfl ?_
          refine za rfl (y_lenM (el := 3) hl.len (by kernel_rfl) rfl rfl) rfl rfl ?_
          by_cases c18 : ((t : Nat) : Int) < ((resL Ls x).length : Int)
          · refine za rfl (yb (decide_eq_true c18) (yi_lss rfl rfl rfl)) rfl rfl ?_
            refine lg_nil ?_
            refine nx (zk5 0 1 5 6 10 rfl rfl rfl rfl rfl (zk1 72 rfl fn)) ?_
            refine cg_ct rfl ?_
            refine cg_skip ?_
            refine nx (zk5 0 1 5 6 10 rfl rfl rfl rfl rfl fn) ?_
            refine cg_seq ?_
            refine cg_block ?_
            refine cg_seq ?_
            have htlt : t < (resL Ls x).length := by omega
            have hrr := res_range htr (getD_in htlt)
            refine cg_region ?_
            refine zM rfl rfl rfl rfl rfl ?_
            refine zM rfl rfl rfl rfl rfl ?_
            refine za rfl (y_ixT (i := t) (iI := ((t : Nat) : Int)) hl (by omega) (by first | omega | (simp only [List.length_append, List.length_cons, List.length_nil]; omega)) rfl rfl rfl) rfl rfl ?_
            refine za rfl (y_ldT (i := t) hl (by first | omega | (simp only [List.length_append, List.length_cons, List.length_nil]; omega)) rfl rfl) rfl rfl ?_
            refine za rfl (yi_rem rfl rfl rfl (by omega) (by omega)) rfl rfl ?_
            by_cases c19 : (((resL Ls x).getD t 0) % 2) = 1
            · have hodd := hi_in (res_odd (getD_in (show t < (resL Ls x).length by omega)) c19)
              have hle := hodd.2.1.le
              have hk2 := odd_inner htr (i := ((resL Ls x).getD t 0).toNat) (by omega) hodd.2.2.1
              refine za rfl (yb (decide_eq_true c19) (yi_eql rfl rfl rfl)) rfl rfl ?_
              refine zM rfl rfl rfl rfl rfl ?_
              refine zt 81 rfl (by kernel_rfl) rfl (y_move rfl rfl) rfl rfl ?_
              refine zt 81 rfl (by kernel_rfl) rfl (y_move rfl rfl) rfl rfl ?_
              refine zt 81 rfl (by kernel_rfl) rfl (y_ixT (i := t) (iI := ((t : Nat) : Int)) hl (by omega) (by first | omega | (simp only [List.length_append, List.length_cons, List.length_nil]; omega)) rfl rfl rfl) rfl rfl ?_
              refine zt 81 rfl (by kernel_rfl) rfl (y_ldT (i := t) hl (by first | omega | (simp only [List.length_append, List.length_cons, List.length_nil]; omega)) rfl rfl) rfl rfl ?_
              refine zt 81 rfl (by kernel_rfl) rfl (y_move rfl rfl) rfl rfl ?_
              refine zt 81 rfl (by kernel_rfl) rfl (y_lenM (el := 36) h.len (by kernel_rfl) rfl rfl) rfl rfl ?_
              refine zt 81 rfl (by kernel_rfl) rfl (yb (decide_eq_true (show isN ((resL Ls x).getD t 0) (Ls.length : Int) from hodd.2.1)) (y_call (isL_any ((resL Ls x).getD t 0) (Ls.length : Int) _) (by kernel_rfl) rfl rfl)) rfl rfl ?_
              refine zt 81 rfl (by kernel_rfl) rfl (y_bnot rfl rfl) rfl rfl ?_
              refine zt 81 rfl (by kernel_rfl) rfl (y_move rfl rfl) rfl rfl ?_
              refine zt 90 rfl (by kernel_rfl) rfl (y_move rfl rfl) rfl rfl ?_
              refine zt 90 rfl (by kernel_rfl) rfl (y_move rfl rfl) rfl rfl ?_
              refine zt 90 rfl (by kernel_rfl) rfl (y_move rfl rfl) rfl rfl ?_
              refine zt 90 rfl (by kernel_rfl) rfl (y_ixT (i := t) (iI := ((t : Nat) : Int)) hl (by omega) (by first | omega | (simp only [List.length_append, List.length_cons, List.length_nil]; omega)) rfl rfl rfl) rfl rfl ?_
              refine zt 90 rfl (by kernel_rfl) rfl (y_ldT (i := t) hl (by first | omega | (simp only [List.length_append, List.length_cons, List.length_nil]; omega)) rfl rfl) rfl rfl ?_
              obtain ⟨eb20, eo20, el20, eL20, eA20, eB20, eg20, eh20, ec20⟩ := h.at (((resL Ls x).getD t 0).toNat) (by have := h.len; omega)
              refine zt 90 rfl (by kernel_rfl) rfl (y_ixR (s := s) (el := 36) (k := 8) (i := ((resL Ls x).getD t 0).toNat) (iI := ((resL Ls x).getD t 0)) eA20 (by kernel_rfl) (by kernel_rfl) (by omega) (by have := h.len; omega) rfl rfl rfl) rfl rfl ?_
              refine zt 90 rfl (by kernel_rfl) rfl (y_fld (off := 0) (by kernel_rfl) rfl rfl) rfl rfl ?_
              refine zt 90 rfl (by kernel_rfl) rfl (y_celld (ec20 0 _ rfl) (by kernel_rfl) rfl rfl) rfl rfl ?_
              refine zt 90 rfl (by kernel_rfl) rfl (yb (nd_f (show eL20.kind = 2 from (by rw [← atN_some eg20]; exact hk2))) (yi_neq rfl rfl rfl)) rfl rfl ?_
              refine zt 81 rfl (by kernel_rfl) rfl (y_pick false rfl rfl rfl) rfl rfl ?_
              refine zt 81 rfl (by kernel_rfl) rfl (y_move rfl rfl) rfl rfl ?_
              refine zt 101 rfl (by kernel_rfl) rfl (y_move rfl rfl) rfl rfl ?_
              refine zt 101 rfl (by kernel_rfl) rfl (y_move rfl rfl) rfl rfl ?_
              refine zt 101 rfl (by kernel_rfl) rfl (y_ixT (i := t) (iI := ((t : Nat) : Int)) hl (by omega) (by first | omega | (simp only [List.length_append, List.length_cons, List.length_nil]; omega)) rfl rfl rfl) rfl rfl ?_
              refine zt 101 rfl (by kernel_rfl) rfl (y_ldT (i := t) hl (by first | omega | (simp only [List.length_append, List.length_cons, List.length_nil]; omega)) rfl rfl) rfl rfl ?_
              refine zt 101 rfl (by kernel_rfl) rfl (y_move rfl rfl) rfl rfl ?_
              refine zt 101 rfl (by kernel_rfl) rfl (y_move rfl rfl) rfl rfl ?_
              refine zt 101 rfl (by kernel_rfl) rfl (y_lenM (el := 36) h.len (by kernel_rfl) rfl rfl) rfl rfl ?_
              refine lg_callw (want_t (dj := 101) (by rfl) (by kernel_rfl) rfl) (under_any ((resL Ls x).getD t 0) x (Ls.length : Int) _ (rg.up u)) (by kernel_rfl) rfl rfl rfl (by decide) ?_
              rintro u21 w21 ⟨e21, hw21⟩
              have zw21 := hw21.size
              obtain rfl : u21 = .bool true := e21.trans (congrArg Value.bool (decide_eq_true (show undI ((resL Ls x).getD t 0) x (Ls.length : Int) from hodd.2.2.2)))
              refine zt 101 rfl (by kernel_rfl) rfl (y_bnot rfl rfl) rfl rfl ?_
              refine zt 81 rfl (by kernel_rfl) rfl (y_pick false rfl rfl rfl) rfl rfl ?_
              refine za rfl (y_pick true rfl rfl rfl) rfl rfl ?_
              refine lg_nil ?_
              refine nx (zk5 0 1 5 6 10 rfl rfl rfl rfl rfl (zk1 112 rfl fn)) ?_
              refine cg_cf rfl ?_
              refine cg_skip ?_
              refine eg_block_norm ?_
              refine nx (zk5 0 1 5 6 10 rfl rfl rfl rfl rfl fn) ?_
              refine cg_region ?_
              refine zM rfl rfl rfl rfl rfl ?_
              refine za rfl (yv (congrArg nv (show ((t : Nat) : Int) + 1 = ((t + 1 : Nat) : Int) by omega)) (yi_add rfl rfl rfl (by omega) (by omega))) rfl rfl ?_
              refine zA rfl rfl rfl rfl rfl ?_
              refine lg_nil ?_
              have h := h.below (hw21.mono (by omega))
              have u := u.trans (hw21.mono u.size)
              have cC := (show C ≤ w21.heap.size by omega)
              have cW := cW
              have hl := hl.below (hw21.mono (by omega))
              exact fun a ha => (show t < ((resL Ls x).length + 1) ∧ _ from ⟨(by omega), ha.keep (fk rfl (fk rfl (fk rfl (fk rfl (fk rfl fn))))), h, u, cC, cW, hl, (by omega)⟩)
            · refine za rfl (yb (decide_eq_false c19) (yi_eql rfl rfl rfl)) rfl rfl ?_
              refine zM rfl rfl rfl rfl rfl ?_
              refine zf 81 rfl (by kernel_rfl) rfl rfl rfl ?_
              refine zf 81 rfl (by kernel_rfl) rfl rfl rfl ?_
              refine zf 81 rfl (by kernel_rfl) rfl rfl rfl ?_
              refine zf 81 rfl (by kernel_rfl) rfl rfl rfl ?_
              refine zf 81 rfl (by kernel_rfl) rfl rfl rfl ?_
              refine zf 81 rfl (by kernel_rfl) rfl rfl rfl ?_
              refine zf 81 rfl (by kernel_rfl) rfl rfl rfl ?_
              refine zf 81 rfl (by kernel_rfl) rfl rfl rfl ?_
              refine zf 81 rfl (by kernel_rfl) rfl rfl rfl ?_
              refine zu 90 rfl (by kernel_rfl) rfl rfl rfl ?_
              refine zu 90 rfl (by kernel_rfl) rfl rfl rfl ?_
              refine zu 90 rfl (by kernel_rfl) rfl rfl rfl ?_
              refine zu 90 rfl (by kernel_rfl) rfl rfl rfl ?_
              refine zu 90 rfl (by kernel_rfl) rfl rfl rfl ?_
              refine zu 90 rfl (by kernel_rfl) rfl rfl rfl ?_
              refine zu 90 rfl (by kernel_rfl) rfl rfl rfl ?_
              refine zu 90 rfl (by kernel_rfl) rfl rfl rfl ?_
              refine zu 90 rfl (by kernel_rfl) rfl rfl rfl ?_
              refine zf 81 rfl (by kernel_rfl) rfl rfl rfl ?_
              refine zf 81 rfl (by kernel_rfl) rfl rfl rfl ?_
              refine zu 101 rfl (by kernel_rfl) rfl rfl rfl ?_
              refine zu 101 rfl (by kernel_rfl) rfl rfl rfl ?_
              refine zu 101 rfl (by kernel_rfl) rfl rfl rfl ?_
              refine zu 101 rfl (by kernel_rfl) rfl rfl rfl ?_
              refine zu 101 rfl (by kernel_rfl) rfl rfl rfl ?_
              refine zu 101 rfl (by kernel_rfl) rfl rfl rfl ?_
              refine zu 101 rfl (by kernel_rfl) rfl rfl rfl ?_
              refine zu 101 rfl (by kernel_rfl) rfl rfl rfl ?_
              refine zu 101 rfl (by kernel_rfl) rfl rfl rfl ?_
              refine zf 81 rfl (by kernel_rfl) rfl rfl rfl ?_
              refine za rfl (y_pick false rfl rfl rfl) rfl rfl ?_
              refine lg_nil ?_
              refine nx (zk5 0 1 5 6 10 rfl rfl rfl rfl rfl (zk1 112 rfl fn)) ?_
              refine cg_cf rfl ?_
              refine cg_skip ?_
              refine eg_block_norm ?_
              refine nx (zk5 0 1 5 6 10 rfl rfl rfl rfl rfl fn) ?_
              refine cg_region ?_
              refine zM rfl rfl rfl rfl rfl ?_
              refine za rfl (yv (congrArg nv (show ((t : Nat) : Int) + 1 = ((t + 1 : Nat) : Int) by omega)) (yi_add rfl rfl rfl (by omega) (by omega))) rfl rfl ?_
              refine zA rfl rfl rfl rfl rfl ?_
              refine lg_nil ?_
              exact fun a ha => (show t < ((resL Ls x).length + 1) ∧ _ from ⟨(by omega), ha.keep (fk rfl (fk rfl (fk rfl (fk rfl (fk rfl fn))))), h, u, cC, cW, hl, (by omega)⟩)
          · refine za rfl (yb (decide_eq_false c18) (yi_lss rfl rfl rfl)) rfl rfl ?_
            refine lg_nil ?_
            refine nx (zk5 0 1 5 6 10 rfl rfl rfl rfl rfl (zk1 72 rfl fn)) ?_
            refine cg_cf rfl ?_
            refine cg_exit ?_
            refine eg_seq_exit ?_
            refine eg_seq_exit ?_
            refine eg_block_exit ?_
            refine nx (zk3 0 1 5 rfl rfl rfl (zk1 6 rfl fn)) ?_
            refine cg_seq ?_
            refine cg_region ?_
            refine zM rfl rfl rfl rfl rfl ?_
            refine zM rfl rfl rfl rfl rfl ?_
            refine zt 114 rfl (by kernel_rfl) rfl (y_move rfl rfl) rfl rfl ?_
            refine zt 114 rfl (by kernel_rfl) rfl (y_move rfl rfl) rfl rfl ?_
            obtain ⟨eb22, eo22, el22, eL22, eA22, eB22, eg22, eh22, ec22⟩ := h.at (x.toNat) (by have := h.len; omega)
            refine zt 114 rfl (by kernel_rfl) rfl (y_ixR (s := s) (el := 36) (k := 8) (i := x.toNat) (iI := x) eA22 (by kernel_rfl) (by kernel_rfl) (by omega) (by have := h.len; omega) rfl rfl rfl) rfl rfl ?_
            refine zt 114 rfl (by kernel_rfl) rfl (y_fld (off := 0) (by kernel_rfl) rfl rfl) rfl rfl ?_
            refine zt 114 rfl (by kernel_rfl) rfl (y_celld (ec22 0 _ rfl) (by kernel_rfl) rfl rfl) rfl rfl ?_
            by_cases c23 : eL22.kind = 0
            · refine zt 114 rfl (by kernel_rfl) rfl (yb (decide_eq_true c23) (yi_eql rfl rfl rfl)) rfl rfl ?_
              refine zt 114 rfl (by kernel_rfl) rfl (y_move rfl rfl) rfl rfl ?_
              refine zf 121 rfl (by kernel_rfl) rfl rfl rfl ?_
              refine zf 121 rfl (by kernel_rfl) rfl rfl rfl ?_
              refine zf 121 rfl (by kernel_rfl) rfl rfl rfl ?_
              refine zf 121 rfl (by kernel_rfl) rfl rfl rfl ?_
              refine zf 121 rfl (by kernel_rfl) rfl rfl rfl ?_
              refine zf 121 rfl (by kernel_rfl) rfl rfl rfl ?_
              refine zf 121 rfl (by kernel_rfl) rfl rfl rfl ?_
              refine zf 121 rfl (by kernel_rfl) rfl rfl rfl ?_
              refine zf 121 rfl (by kernel_rfl) rfl rfl rfl ?_
              refine zf 121 rfl (by kernel_rfl) rfl rfl rfl ?_
              refine zf 121 rfl (by kernel_rfl) rfl rfl rfl ?_
              refine zf 121 rfl (by kernel_rfl) rfl rfl rfl ?_
              refine zu 133 rfl (by kernel_rfl) rfl rfl rfl ?_
              refine zu 133 rfl (by kernel_rfl) rfl rfl rfl ?_
              refine zu 133 rfl (by kernel_rfl) rfl rfl rfl ?_
              refine zu 133 rfl (by kernel_rfl) rfl rfl rfl ?_
              refine zu 133 rfl (by kernel_rfl) rfl rfl rfl ?_
              refine zf 121 rfl (by kernel_rfl) rfl rfl rfl ?_
              refine zt 114 rfl (by kernel_rfl) rfl (y_pick true rfl rfl rfl) rfl rfl ?_
              refine za rfl (y_pick true rfl rfl rfl) rfl rfl ?_
              refine zA rfl rfl rfl rfl rfl ?_
              refine lg_nil ?_
              refine nx (zk1 4 rfl fn) ?_
              refine cg_ret ?_
              exact eg_ret_tmp rfl rfl ⟨_, rfl, rfl, u⟩
            · have r1 : (resL Ls x) = x :: eL22.inner.unm.map (2 * ·) := by rw [res_one hx (at_kind (p := fun k => ¬ k = 0) eg22 c23), nodeR, atN_some eg22]
              have hun := unm_small htr x.toNat
              rw [atN_some eg22] at hun
              have r2 : (resL Ls x).length = 1 + eL22.inner.unm.length := by rw [r1, List.length_cons, List.length_map, Nat.add_comm]
              refine zt 114 rfl (by kernel_rfl) rfl (yb (decide_eq_false c23) (yi_eql rfl rfl rfl)) rfl rfl ?_
              refine zt 114 rfl (by kernel_rfl) rfl (y_move rfl rfl) rfl rfl ?_
              refine zt 121 rfl (by kernel_rfl) rfl (y_move rfl rfl) rfl rfl ?_
              refine zt 121 rfl (by kernel_rfl) rfl (y_lenM (el := 3) hl.len (by kernel_rfl) rfl rfl) rfl rfl ?_
              refine zt 121 rfl (by kernel_rfl) rfl (y_move rfl rfl) rfl rfl ?_
              refine zt 121 rfl (by kernel_rfl) rfl (y_move rfl rfl) rfl rfl ?_
              obtain ⟨eb24, eo24, el24, eL24, eA24, eB24, eg24, eh24, ec24⟩ := h.at (x.toNat) (by have := h.len; omega)
              obtain rfl : eL22 = eL24 := Option.some.inj (eg22.symm.trans eg24)
              refine zt 121 rfl (by kernel_rfl) rfl (y_ixR (s := s) (el := 36) (k := 8) (i := x.toNat) (iI := x) eA24 (by kernel_rfl) (by kernel_rfl) (by omega) (by have := h.len; omega) rfl rfl rfl) rfl rfl ?_
              refine zt 121 rfl (by kernel_rfl) rfl (y_fld (off := 5) (by kernel_rfl) rfl rfl) rfl rfl ?_
              refine zt 121 rfl (by kernel_rfl) rfl (y_fld (off := 2) (by kernel_rfl) rfl rfl) rfl rfl ?_
              refine zt 121 rfl (by kernel_rfl) rfl (y_celld (ec24 7 _ rfl) (by kernel_rfl) rfl rfl) rfl rfl ?_
              refine zt 121 rfl (by kernel_rfl) rfl (y_lenM (el := 3) eh24.inner.unm.len (by kernel_rfl) rfl rfl) rfl rfl ?_
              refine zt 121 rfl (by kernel_rfl) rfl (yi_add rfl rfl rfl (by omega) (by omega)) rfl rfl ?_
              refine zt 121 rfl (by kernel_rfl) rfl (yb (decide_eq_true (show ((resL Ls x).length : Int) = (1 + (eL22.inner.unm.length : Int)) from (by omega))) (yi_eql rfl rfl rfl)) rfl rfl ?_
              refine zt 121 rfl (by kernel_rfl) rfl (y_move rfl rfl) rfl rfl ?_
              refine zt 133 rfl (by kernel_rfl) rfl (y_move rfl rfl) rfl rfl ?_
              refine zt 133 rfl (by kernel_rfl) rfl (y_ixT (i := 0) (iI := 0) hl (by omega) (by first | omega | (simp only [List.length_append, List.length_cons, List.length_nil]; omega)) rfl rfl rfl) rfl rfl ?_
              refine zt 133 rfl (by kernel_rfl) rfl (y_ldT (i := 0) hl (by first | omega | (simp only [List.length_append, List.length_cons, List.length_nil]; omega)) rfl rfl) rfl rfl ?_
              refine zt 133 rfl (by kernel_rfl) rfl (y_move rfl rfl) rfl rfl ?_
              refine zt 133 rfl (by kernel_rfl) rfl (yb (decide_eq_true (show ((resL Ls x).getD 0 0) = x from (by rw [r1]; rfl))) (yi_eql rfl rfl rfl)) rfl rfl ?_
              refine zt 121 rfl (by kernel_rfl) rfl (y_pick true rfl rfl rfl) rfl rfl ?_
              refine zt 114 rfl (by kernel_rfl) rfl (y_pick false rfl rfl rfl) rfl rfl ?_
              refine za rfl (y_pick true rfl rfl rfl) rfl rfl ?_
              refine zA rfl rfl rfl rfl rfl ?_
              refine lg_nil ?_
              refine nx (zk1 4 rfl fn) ?_
              refine cg_ret ?_
              exact eg_ret_tmp rfl rfl ⟨_, rfl, rfl, u⟩
      · refine zt 20 rfl (by kernel_rfl) rfl (yb (decide_eq_false c6) (y_call (isL_any x (Ls.length : Int) _) (by kernel_rfl) rfl rfl)) rfl rfl ?_
        refine zt 20 rfl (by kernel_rfl) rfl (y_bnot rfl rfl) rfl rfl ?_
        refine za rfl (y_pick false rfl rfl rfl) rfl rfl ?_
        refine lg_nil ?_
        refine nx (zk5 0 1 4 5 26 rfl rfl rfl rfl rfl fn) ?_
        refine cg_ct rfl ?_
        refine cg_seq ?_
        refine cg_region ?_
        refine zM rfl rfl rfl rfl rfl ?_
        refine zA rfl rfl rfl rfl rfl ?_
        refine lg_nil ?_
        refine nx (zk3 0 1 5 rfl rfl rfl (zk1 4 rfl fn)) ?_
        refine cg_ret ?_
        refine eg_seq_ret ?_
        have u := u.trans (hw1.mono u.size)
        have u := u.trans (hw3.mono u.size)
        have u := u.trans (hw5.mono u.size)
        exact eg_ret_tmp rfl rfl ⟨_, rfl, rfl, u⟩
    · refine lg_callw (want_t (dj := 15) (by rfl) (by kernel_rfl) rfl) (sane_any (h.more (B' := w3.heap.size) (by omega)) (Nat.le_refl _)) (by kernel_rfl) rfl rfl rfl (by decide) ?_
      rintro u25 w25 ⟨e25, hw25⟩
      have zw25 := hw25.size
      obtain rfl : u25 = .bool false := e25.trans (congrArg Value.bool (decide_eq_false c4))
      refine zt 15 rfl (by kernel_rfl) rfl (y_bnot rfl rfl) rfl rfl ?_
      refine za rfl (y_pick false rfl rfl rfl) rfl rfl ?_
      refine zM rfl rfl rfl rfl rfl ?_
      refine zf 20 rfl (by kernel_rfl) rfl rfl rfl ?_
      refine zf 20 rfl (by kernel_rfl) rfl rfl rfl ?_
      refine zf 20 rfl (by kernel_rfl) rfl rfl rfl ?_
      refine zf 20 rfl (by kernel_rfl) rfl rfl rfl ?_
      refine zf 20 rfl (by kernel_rfl) rfl rfl rfl ?_
      refine za rfl (y_pick true rfl rfl rfl) rfl rfl ?_
      refine lg_nil ?_
      refine nx (zk5 0 1 4 5 26 rfl rfl rfl rfl rfl fn) ?_
      refine cg_ct rfl ?_
      refine cg_seq ?_
      refine cg_region ?_
      refine zM rfl rfl rfl rfl rfl ?_
      refine zA rfl rfl rfl rfl rfl ?_
      refine lg_nil ?_
      refine nx (zk3 0 1 5 rfl rfl rfl (zk1 4 rfl fn)) ?_
      refine cg_ret ?_
      refine eg_seq_ret ?_
      have u := u.trans (hw1.mono u.size)
      have u := u.trans (hw3.mono u.size)
      have u := u.trans (hw25.mono u.size)
      exact eg_ret_tmp rfl rfl ⟨_, rfl, rfl, u⟩
  · refine lg_callw (want_none (by rfl)) (fewR_any (h.more (B' := w1.heap.size) (by omega)) (Nat.le_refl _)) (by kernel_rfl) rfl rfl rfl (by decide) ?_
    rintro u26 w26 ⟨e26, hw26⟩
    have zw26 := hw26.size
    obtain rfl : u26 = .bool false := e26.trans (congrArg Value.bool (decide_eq_false c2))
    refine za rfl (y_bnot rfl rfl) rfl rfl ?_
    refine zM rfl rfl rfl rfl rfl ?_
    refine zf 15 rfl (by kernel_rfl) rfl rfl rfl ?_
    refine zf 15 rfl (by kernel_rfl) rfl rfl rfl ?_
    refine zf 15 rfl (by kernel_rfl) rfl rfl rfl ?_
    refine za rfl (y_pick true rfl rfl rfl) rfl rfl ?_
    refine zM rfl rfl rfl rfl rfl ?_
    refine zf 20 rfl (by kernel_rfl) rfl rfl rfl ?_
    refine zf 20 rfl (by kernel_rfl) rfl rfl rfl ?_
    refine zf 20 rfl (by kernel_rfl) rfl rfl rfl ?_
    refine zf 20 rfl (by kernel_rfl) rfl rfl rfl ?_
    refine zf 20 rfl (by kernel_rfl) rfl rfl rfl ?_
    refine za rfl (y_pick true rfl rfl rfl) rfl rfl ?_
    refine lg_nil ?_
    refine nx (zk5 0 1 4 5 26 rfl rfl rfl rfl rfl fn) ?_
    refine cg_ct rfl ?_
    refine cg_seq ?_
    refine cg_region ?_
    refine zM rfl rfl rfl rfl rfl ?_
    refine zA rfl rfl rfl rfl rfl ?_
    refine lg_nil ?_
    refine nx (zk3 0 1 5 rfl rfl rfl (zk1 4 rfl fn)) ?_
    refine cg_ret ?_
    refine eg_seq_ret ?_
    have u := u.trans (hw1.mono u.size)
    have u := u.trans (hw26.mono u.size)
    exact eg_ret_tmp rfl rfl ⟨_, rfl, rfl, u⟩
end Go.Proofs.YtjcnfmmekpiliaaDoor
