/-
  Who is dropped is nowhere.
-/
import Derived.Test.YtkcpmpbjjnknhaaGreatDoorHsAwake
import Derived.Test.YtkcpmpbjjnknhaaGreatDoorRsRes
namespace Go.Proofs.YtkcpmpbjjnknhaaGreatDoor
open Go.ChangeShapes Go.WideShapes Go.ChangeAt Go.RowKit
set_option linter.unusedVariables false

set_option maxRecDepth 20000
set_option maxHeartbeats 4000000 in
theorem hashDrops_any {W : World} {s : SlV} {Ls : List Nd} (h : RwNd W W.heap.size s Ls) {r : SlV} {xs : List Int} (hn : SlN W W.heap.size r xs) (k : Int) (rg : Tt W) : Calls Tryz.prog 6 #[s.v, r.v, nv k] W fun e W' => ∃ v, e = .returned v ∧ v = .bool true ∧ Below W.heap.size W W' := by
  refine calls_cg (n := 126) Tryz.func6 rfl Tryz.ntmps6 (by simp) ?_
  show CG _ _ _ [(0, s.v), (1, r.v), (2, nv k)] _ _
  have u := Below.refl W.heap.size W
  have q1 := h.len
  have q2 := h.cap
  have q3 := hn.len
  have q4 := hn.cap
  refine cg_seq ?_
  refine cg_region ?_
  refine zA rfl rfl rfl rfl rfl ?_
  refine lg_nil ?_
  refine nx (zk3 0 1 2 rfl rfl rfl (zk1 6 rfl fn)) ?_
  refine cg_seq ?_
  refine cg_region ?_
  refine lg_callw (want_none (by rfl)) (awakeH_any _ (Tt.up u rg)) (by kernel_rfl) rfl rfl rfl (by decide) ?_
  rintro _ w1 ⟨rfl, hw1⟩
  have zw1 := hw1.size
  refine zA rfl rfl rfl rfl rfl ?_
  refine lg_nil ?_
  refine nx (zk5 0 1 2 6 7 rfl rfl rfl rfl rfl fn) ?_
  refine cg_seq ?_
  refine cg_seq ?_
  refine cg_region ?_
  refine zM rfl rfl rfl rfl rfl ?_
  have h := h.below (hw1.mono (by omega))
  by_cases c2 : trFew Ls
  · refine lg_callw (want_none (by rfl)) (fewR_any (h.more (B' := w1.heap.size) (by omega)) (Nat.le_refl _)) (by kernel_rfl) rfl rfl rfl (by decide) ?_
    rintro u3 w3 ⟨e3, hw3⟩
    have zw3 := hw3.size
    obtain rfl : u3 = .bool true := e3.trans (congrArg Value.bool (decide_eq_true c2))
    refine za rfl (y_bnot rfl rfl) rfl rfl ?_
    refine zM rfl rfl rfl rfl rfl ?_
    refine zt 16 rfl (by kernel_rfl) rfl (y_move rfl rfl) rfl rfl ?_
    have h := h.below (hw3.mono (by omega))
    refine zt 16 rfl (by kernel_rfl) rfl (y_lenM (el := 40) h.len (by kernel_rfl) rfl rfl) rfl rfl ?_
    by_cases c4 : 40 < (Ls.length : Int)
    · refine zt 16 rfl (by kernel_rfl) rfl (yb (decide_eq_true c4) (yi_gtr rfl rfl rfl)) rfl rfl ?_
      refine za rfl (y_pick false rfl rfl rfl) rfl rfl ?_
      refine zM rfl rfl rfl rfl rfl ?_
      refine zf 21 rfl (by kernel_rfl) rfl rfl rfl ?_
      refine zf 21 rfl (by kernel_rfl) rfl rfl rfl ?_
      refine zf 21 rfl (by kernel_rfl) rfl rfl rfl ?_
      refine za rfl (y_pick true rfl rfl rfl) rfl rfl ?_
      refine zM rfl rfl rfl rfl rfl ?_
      refine zf 26 rfl (by kernel_rfl) rfl rfl rfl ?_
      refine zf 26 rfl (by kernel_rfl) rfl rfl rfl ?_
      refine zf 26 rfl (by kernel_rfl) rfl rfl rfl ?_
      refine za rfl (y_pick true rfl rfl rfl) rfl rfl ?_
      refine lg_nil ?_
      refine nx (zk5 0 1 2 6 7 rfl rfl rfl rfl rfl (zk1 30 rfl fn)) ?_
      refine cg_ct rfl ?_
      refine cg_seq ?_
      refine cg_region ?_
      refine zM rfl rfl rfl rfl rfl ?_
      refine zA rfl rfl rfl rfl rfl ?_
      refine lg_nil ?_
      refine nx (zk5 0 1 2 7 6 rfl rfl rfl rfl rfl fn) ?_
      refine cg_ret ?_
      refine eg_seq_ret ?_
      have u := u.trans (hw1.mono u.size)
      have u := u.trans (hw3.mono u.size)
      exact eg_ret_tmp rfl rfl ⟨_, rfl, rfl, u⟩
    · refine zt 16 rfl (by kernel_rfl) rfl (yb (decide_eq_false c4) (yi_gtr rfl rfl rfl)) rfl rfl ?_
      refine za rfl (y_pick false rfl rfl rfl) rfl rfl ?_
      refine zM rfl rfl rfl rfl rfl ?_
      refine zt 21 rfl (by kernel_rfl) rfl (y_move rfl rfl) rfl rfl ?_
      by_cases c5 : trIs Ls
      · have htr := c5
        have htl := trIs_le htr
        have hta := trAs_ok htr
        have hdi : trIs (dropL xs (trAs Ls)) := drop_is (trAs_is Ls) xs
        have hda := trAs_ok hdi
        have hdl : (dropL xs (trAs Ls)).length = Ls.length := by rw [hta, dropL_len]
        have hlv : leavesA (trAs Ls) = (Ls.length + 1) / 2 := by rw [hta]; rfl
        refine lg_callw (want_t (dj := 21) (by rfl) (by kernel_rfl) rfl) (sane_any (h.more (B' := w3.heap.size) (by omega)) (Nat.le_refl _)) (by kernel_rfl) rfl rfl rfl (by decide) ?_
        rintro u6 w6 ⟨e6, hw6⟩
        have zw6 := hw6.size
        obtain rfl : u6 = .bool true := e6.trans (congrArg Value.bool (decide_eq_true c5))
        refine zt 21 rfl (by kernel_rfl) rfl (y_bnot rfl rfl) rfl rfl ?_
        refine za rfl (y_pick false rfl rfl rfl) rfl rfl ?_
        refine zM rfl rfl rfl rfl rfl ?_
        refine zt 26 rfl (by kernel_rfl) rfl (y_move rfl rfl) rfl rfl ?_
        have hn := hn.below (hw1.mono (by omega))
        have hn := hn.below (hw3.mono (by omega))
        have hn := hn.below (hw6.mono (by omega))
        refine zt 26 rfl (by kernel_rfl) rfl (y_lenM (el := 3) hn.len (by kernel_rfl) rfl rfl) rfl rfl ?_
        by_cases c7 : 100 < (xs.length : Int)
        · refine zt 26 rfl (by kernel_rfl) rfl (yb (decide_eq_true c7) (yi_gtr rfl rfl rfl)) rfl rfl ?_
          refine za rfl (y_pick false rfl rfl rfl) rfl rfl ?_
          refine lg_nil ?_
          refine nx (zk5 0 1 2 6 7 rfl rfl rfl rfl rfl (zk1 30 rfl fn)) ?_
          refine cg_ct rfl ?_
          refine cg_seq ?_
          refine cg_region ?_
          refine zM rfl rfl rfl rfl rfl ?_
          refine zA rfl rfl rfl rfl rfl ?_
          refine lg_nil ?_
          refine nx (zk5 0 1 2 7 6 rfl rfl rfl rfl rfl fn) ?_
          refine cg_ret ?_
          refine eg_seq_ret ?_
          have u := u.trans (hw1.mono u.size)
          have u := u.trans (hw3.mono u.size)
          have u := u.trans (hw6.mono u.size)
          exact eg_ret_tmp rfl rfl ⟨_, rfl, rfl, u⟩
        · refine zt 26 rfl (by kernel_rfl) rfl (yb (decide_eq_false c7) (yi_gtr rfl rfl rfl)) rfl rfl ?_
          refine za rfl (y_pick false rfl rfl rfl) rfl rfl ?_
          refine lg_nil ?_
          refine nx (zk5 0 1 2 6 7 rfl rfl rfl rfl rfl (zk1 30 rfl fn)) ?_
          refine cg_cf rfl ?_
          refine cg_skip ?_
          refine nx (zk5 0 1 2 6 7 rfl rfl rfl rfl rfl fn) ?_
          refine cg_seq ?_
          refine cg_region ?_
          refine zM rfl rfl rfl rfl rfl ?_
          refine zM rfl rfl rfl rfl rfl ?_
          have h := h.below (hw6.mono (by omega))
          refine lg_callw (want_none (by rfl)) (drop_any (h.more (B' := w6.heap.size) (by omega)) (hn.more (B' := w6.heap.size) (by omega)) (Nat.le_refl _) (by first | omega | (simp only [List.length_append, List.length_cons, List.length_nil, numOct_length, flagOct_length]; omega))) (by kernel_rfl) rfl rfl rfl (by decide) ?_
          rintro _ w8 ⟨s8, rfl, m8, hw8⟩
          have zw8 := hw8.size
          refine zA rfl rfl rfl rfl rfl ?_
          refine lg_nil ?_
          refine nx (zk5 0 1 2 6 7 rfl rfl rfl rfl rfl (zk1 8 rfl fn)) ?_
          refine cg_seq ?_
          refine cg_seq ?_
          refine cg_region ?_
          refine zM rfl rfl rfl rfl rfl ?_
          refine za rfl (y_lenM (el := 40) m8.len (by kernel_rfl) rfl rfl) rfl rfl ?_
          refine zM rfl rfl rfl rfl rfl ?_
          have h := h.below (hw8.mono (by omega))
          refine za rfl (y_lenM (el := 40) h.len (by kernel_rfl) rfl rfl) rfl rfl ?_
          refine za rfl (yb (nd_f (show ((dropL xs (trAs Ls)).length : Int) = (Ls.length : Int) from (by omega))) (yi_neq rfl rfl rfl)) rfl rfl ?_
          refine zM rfl rfl rfl rfl rfl ?_
          refine zt 40 rfl (by kernel_rfl) rfl (y_move rfl rfl) rfl rfl ?_
          refine lg_callw (want_t (dj := 40) (by rfl) (by kernel_rfl) rfl) (sane_any (m8.more (B' := w8.heap.size) (by omega)) (Nat.le_refl _)) (by kernel_rfl) rfl rfl rfl (by decide) ?_
          rintro u9 w9 ⟨e9, hw9⟩
          have zw9 := hw9.size
          obtain rfl : u9 = .bool true := e9.trans (congrArg Value.bool (decide_eq_true hdi))
          refine zt 40 rfl (by kernel_rfl) rfl (y_bnot rfl rfl) rfl rfl ?_
          refine za rfl (y_pick false rfl rfl rfl) rfl rfl ?_
          refine zM rfl rfl rfl rfl rfl ?_
          refine zt 45 rfl (by kernel_rfl) rfl (y_move rfl rfl) rfl rfl ?_
          refine zt 45 rfl (by kernel_rfl) rfl (y_move rfl rfl) rfl rfl ?_
          have m8 := m8.below (hw9.mono (by omega))
          have hn := hn.below (hw8.mono (by omega))
          have hn := hn.below (hw9.mono (by omega))
          refine lg_callw (want_t (dj := 45) (by rfl) (by kernel_rfl) rfl) (drop_any (m8.more (B' := w9.heap.size) (by omega)) (hn.more (B' := w9.heap.size) (by omega)) (Nat.le_refl _) (by first | omega | (simp only [List.length_append, List.length_cons, List.length_nil, numOct_length, flagOct_length]; omega))) (by kernel_rfl) rfl rfl rfl (by decide) ?_
          rintro _ w10 ⟨s10, rfl, m10, hw10⟩
          have zw10 := hw10.size
          refine zt 45 rfl (by kernel_rfl) rfl (y_move rfl rfl) rfl rfl ?_
          have m8 := m8.below (hw10.mono (by omega))
          refine lg_callw (want_t (dj := 45) (by rfl) (by kernel_rfl) rfl) (sameR_any (m10.more (B' := w10.heap.size) (by omega)) (m8.more (B' := w10.heap.size) (by omega)) (Nat.le_refl _)) (by kernel_rfl) rfl rfl rfl (by decide) ?_
          rintro u11 w11 ⟨e11, hw11⟩
          have zw11 := hw11.size
          obtain rfl : u11 = .bool true := e11.trans (congrArg Value.bool (decide_eq_true (show trSame (dropL xs (trAs (dropL xs (trAs Ls)))) (dropL xs (trAs Ls)) from (by rw [hda, drop_again]; exact tr_same _))))
          refine zt 45 rfl (by kernel_rfl) rfl (y_bnot rfl rfl) rfl rfl ?_
          refine za rfl (y_pick false rfl rfl rfl) rfl rfl ?_
          refine zM rfl rfl rfl rfl rfl ?_
          refine zt 53 rfl (by kernel_rfl) rfl (y_move rfl rfl) rfl rfl ?_
          have h := h.below (hw9.mono (by omega))
          have h := h.below (hw10.mono (by omega))
          have h := h.below (hw11.mono (by omega))
          refine lg_callw (want_t (dj := 53) (by rfl) (by kernel_rfl) rfl) (drop_any (h.more (B' := w11.heap.size) (by omega)) (SlN.nil _ _) (Nat.le_refl _) (by first | omega | (simp only [List.length_nil]; omega))) (by kernel_rfl) rfl rfl rfl (by decide) ?_
          rintro _ w12 ⟨s12, rfl, m12, hw12⟩
          have zw12 := hw12.size
          refine zt 53 rfl (by kernel_rfl) rfl (y_move rfl rfl) rfl rfl ?_
          have h := h.below (hw12.mono (by omega))
          refine lg_callw (want_t (dj := 53) (by rfl) (by kernel_rfl) rfl) (sameR_any (m12.more (B' := w12.heap.size) (by omega)) (h.more (B' := w12.heap.size) (by omega)) (Nat.le_refl _)) (by kernel_rfl) rfl rfl rfl (by decide) ?_
          rintro u13 w13 ⟨e13, hw13⟩
          have zw13 := hw13.size
          obtain rfl : u13 = .bool true := e13.trans (congrArg Value.bool (decide_eq_true (show trSame (dropL [] (trAs Ls)) Ls from (by rw [drop_none (trAs_is Ls), hta]; exact tr_same _))))
          refine zt 53 rfl (by kernel_rfl) rfl (y_bnot rfl rfl) rfl rfl ?_
          refine za rfl (y_pick false rfl rfl rfl) rfl rfl ?_
          refine lg_nil ?_
          refine nx (zk5 0 1 2 6 7 rfl rfl rfl rfl rfl (zk2 8 59 rfl rfl fn)) ?_
          refine cg_cf rfl ?_
          refine cg_skip ?_
          refine nx (zk5 0 1 2 6 7 rfl rfl rfl rfl rfl (zk1 8 rfl fn)) ?_
          refine cg_seq ?_
          refine cg_seq ?_
          refine cg_region ?_
          refine zA rfl rfl rfl rfl rfl ?_
          refine lg_nil ?_
          refine nx (zk5 0 1 2 6 7 rfl rfl rfl rfl rfl (zk2 8 9 rfl rfl fn)) ?_
          refine cg_block ?_
          obtain ⟨C, hC⟩ : ∃ q, q = w13.heap.size := ⟨_, rfl⟩
          have m8 := m8.below (hw11.mono (by omega))
          have m8 := m8.below (hw12.mono (by omega))
          have m8 := m8.below (hw13.mono (by omega))
          have h := h.below (hw13.mono (by omega))
          have u := u.trans (hw1.mono u.size)
          have u := u.trans (hw3.mono u.size)
          have u := u.trans (hw6.mono u.size)
          have u := u.trans (hw8.mono u.size)
          have u := u.trans (hw9.mono u.size)
          have u := u.trans (hw10.mono u.size)
          have u := u.trans (hw11.mono u.size)
          have u := u.trans (hw12.mono u.size)
          have u := u.trans (hw13.mono u.size)
          have hn := hn.below (hw10.mono (by omega))
          have hn := hn.below (hw11.mono (by omega))
          have hn := hn.below (hw12.mono (by omega))
          have hn := hn.below (hw13.mono (by omega))
          refine cg_loopE (fun t a v => Holds 126 [(0, s.v), (1, r.v), (2, nv k), (7, .bool true), (8, s8.v), (9, nv ((t : Nat) : Int))] a ∧ RwNd v W.heap.size s Ls ∧ Below W.heap.size W v ∧ C ≤ v.heap.size ∧ W.heap.size ≤ C ∧ RwNd v C s8 (dropL xs (trAs Ls)) ∧ SlN v W.heap.size r xs ∧ t ≤ xs.length) (xs.length + 1) (fun a ha => ⟨ha.keep (fk rfl (fk rfl (fk rfl (fk rfl (fk rfl (fk rfl fn)))))), h, u, (Nat.le_of_eq hC), (by omega), (m8.more (by omega)), hn, (Nat.zero_le _)⟩) ?_
          rintro t a v ht ⟨ha, h, u, cC, cW, hd, hn, tle⟩
          refine cg_at ha ?_
          clear ha a
          have zv := u.size
          have q1 := h.len
          have q2 := h.cap
          have q3 := hn.len
          have q4 := hn.cap
          have q5 := hd.len
          have q6 := hd.cap
          refine cg_seq ?_
          refine cg_seq ?_
          refine cg_region ?_
          refine zM rfl rfl rfl rfl rfl ?_
          refine zM rfl rfl rfl rfl rfl ?_
          refine za rfl (y_lenM (el := 3) hn.len (by kernel_rfl) rfl rfl) rfl rfl ?_
          by_cases c14 : ((t : Nat) : Int) < (xs.length : Int)
          · have htn : t < xs.length := by omega
            have hxm := getD_in htn
            refine za rfl (yb (decide_eq_true c14) (yi_lss rfl rfl rfl)) rfl rfl ?_
            refine lg_nil ?_
            refine nx (zk5 0 1 2 7 8 rfl rfl rfl rfl rfl (zk2 9 63 rfl rfl fn)) ?_
            refine cg_ct rfl ?_
            refine cg_skip ?_
            refine nx (zk5 0 1 2 7 8 rfl rfl rfl rfl rfl (zk1 9 rfl fn)) ?_
            refine cg_seq ?_
            refine cg_block ?_
            refine cg_seq ?_
            refine cg_seq ?_
            refine cg_held (by kernel_rfl) fun W15 eW15 => ?_
            have dW15 := below_drew _ _ eW15
            have zW15 := size_drew _ _ eW15
            clear eW15
            refine zh 0 rfl rfl rfl rfl rfl (by kernel_rfl) (fun _ _ _ h => h) (fun q hq => y_move rfl rfl) ?_
            refine zh 1 rfl rfl rfl rfl rfl (by kernel_rfl) (fun _ _ _ h => h) (fun q hq => y_move rfl rfl) ?_
            have hn := hn.below (dW15.mono (by omega))
            refine zh 2 rfl rfl rfl rfl rfl (by kernel_rfl) (fun _ _ _ h => h) (fun q hq => y_ixT (i := t) (iI := ((t : Nat) : Int)) (hn.below (hq.mono (by omega))) (by omega) (by omega) rfl rfl rfl) ?_
            refine zh 3 rfl rfl rfl rfl rfl (by kernel_rfl) (fun _ _ _ h => h) (fun q hq => y_ldT (i := t) (hn.below (hq.mono (by omega))) (by omega) rfl rfl) ?_
            by_cases c16 : 0 ≤ (xs.getD t 0)
            · refine zh 4 rfl rfl rfl rfl rfl (by kernel_rfl) (fun _ _ _ h => h) (fun q hq => yb (decide_eq_true c16) (yi_geq rfl rfl rfl)) ?_
              refine zh 5 rfl rfl rfl rfl rfl (by kernel_rfl) (fun _ _ _ h => h) (fun q hq => y_move rfl rfl) ?_
              refine hg_take 6 (by rfl) (want_t (dj := 71) (by rfl) (by kernel_rfl) rfl) (by rfl) rfl (by decide) (by kernel_rfl) (by kernel_rfl) (by kernel_rfl) (fun _ _ _ h => h) (Below.refl _ _) (fun q hq => y_move rfl rfl) ?_
              refine hg_take 7 (by rfl) (want_t (dj := 71) (by rfl) (by kernel_rfl) rfl) (by rfl) rfl (by decide) (by kernel_rfl) (by kernel_rfl) (by kernel_rfl) (fun _ _ _ h => h) (Below.refl _ _) (fun q hq => y_move rfl rfl) ?_
              refine hg_take 8 (by rfl) (want_t (dj := 71) (by rfl) (by kernel_rfl) rfl) (by rfl) rfl (by decide) (by kernel_rfl) (by kernel_rfl) (by kernel_rfl) (fun _ _ _ h => h) (Below.refl _ _) (fun q hq => y_ixT (i := t) (iI := ((t : Nat) : Int)) (hn.below (hq.mono (by omega))) (by omega) (by omega) rfl rfl rfl) ?_
              refine hg_take 9 (by rfl) (want_t (dj := 71) (by rfl) (by kernel_rfl) rfl) (by rfl) rfl (by decide) (by kernel_rfl) (by kernel_rfl) (by kernel_rfl) (fun _ _ _ h => h) (Below.refl _ _) (fun q hq => y_ldT (i := t) (hn.below (hq.mono (by omega))) (by omega) rfl rfl) ?_
              refine hg_take 10 (by rfl) (want_t (dj := 71) (by rfl) (by kernel_rfl) rfl) (by rfl) rfl (by decide) (by kernel_rfl) (by kernel_rfl) (by kernel_rfl) (fun _ _ _ h => h) (Below.refl _ _) (fun q hq => y_move rfl rfl) ?_
              have h := h.below (dW15.mono (by omega))
              refine hg_one 11 (by rfl) (by kernel_rfl) (want_t (dj := 71) (by rfl) (by kernel_rfl) rfl) ?_
              refine lg_callw (want_t (dj := 71) (by rfl) (by kernel_rfl) rfl) (leavesT_any (h.more (B' := W15.heap.size) (by omega)) (Nat.le_refl _)) (by kernel_rfl) rfl rfl rfl (by decide) ?_
              rintro _ w17 ⟨rfl, hw17⟩
              have zw17 := hw17.size
              refine hg_next hw17 ?_
              refine hg_up hw17 ?_
              by_cases c18 : (xs.getD t 0) < ((leavesA (trAs Ls) : Nat) : Int)
              · have hbl := drop_blank hxm (t := trAs Ls) (by omega) c18
                have htw : 2 * (xs.getD t 0) = (((2 * (xs.getD t 0)).toNat : Nat) : Int) := by omega
                refine hg_take 12 (by rfl) (want_t (dj := 71) (by rfl) (by kernel_rfl) rfl) (by rfl) rfl (by decide) (by kernel_rfl) (by kernel_rfl) (by kernel_rfl) (fun _ _ _ h => h) (Below.refl _ _) (fun q hq => yb (decide_eq_true c18) (yi_lss rfl rfl rfl)) ?_
                refine zh 13 rfl rfl rfl rfl rfl (by kernel_rfl) (fun _ _ _ h => h) (fun q hq => y_pick true rfl rfl rfl) ?_
                refine zh 14 rfl rfl rfl rfl rfl (by kernel_rfl) (fun _ _ _ h => h) (fun q hq => y_move rfl rfl) ?_
                refine hg_take 15 (by rfl) (want_t (dj := 80) (by rfl) (by kernel_rfl) rfl) (by rfl) rfl (by decide) (by kernel_rfl) (by kernel_rfl) (by kernel_rfl) (fun _ _ _ h => h) (Below.refl _ _) (fun q hq => y_move rfl rfl) ?_
                refine hg_take 16 (by rfl) (want_t (dj := 80) (by rfl) (by kernel_rfl) rfl) (by rfl) rfl (by decide) (by kernel_rfl) (by kernel_rfl) (by kernel_rfl) (fun _ _ _ h => h) (Below.refl _ _) (fun q hq => y_move rfl rfl) ?_
                refine hg_take 17 (by rfl) (want_t (dj := 80) (by rfl) (by kernel_rfl) rfl) (by rfl) rfl (by decide) (by kernel_rfl) (by kernel_rfl) (by kernel_rfl) (fun _ _ _ h => h) (Below.refl _ _) (fun q hq => y_move rfl rfl) ?_
                have hn := hn.below (hw17.mono (by omega))
                refine hg_take 18 (by rfl) (want_t (dj := 80) (by rfl) (by kernel_rfl) rfl) (by rfl) rfl (by decide) (by kernel_rfl) (by kernel_rfl) (by kernel_rfl) (fun _ _ _ h => h) (Below.refl _ _) (fun q hq => y_ixT (i := t) (iI := ((t : Nat) : Int)) (hn.below (hq.mono (by omega))) (by omega) (by omega) rfl rfl rfl) ?_
                refine hg_take 19 (by rfl) (want_t (dj := 80) (by rfl) (by kernel_rfl) rfl) (by rfl) rfl (by decide) (by kernel_rfl) (by kernel_rfl) (by kernel_rfl) (fun _ _ _ h => h) (Below.refl _ _) (fun q hq => y_ldT (i := t) (hn.below (hq.mono (by omega))) (by omega) rfl rfl) ?_
                refine hg_take 20 (by rfl) (want_t (dj := 80) (by rfl) (by kernel_rfl) rfl) (by rfl) rfl (by decide) (by kernel_rfl) (by kernel_rfl) (by kernel_rfl) (fun _ _ _ h => h) (Below.refl _ _) (fun q hq => yv (congrArg nv htw) (yi_mul rfl rfl rfl (by omega) (by omega))) ?_
                have hd := hd.below (dW15.mono (by omega))
                have hd := hd.below (hw17.mono (by omega))
                obtain ⟨eb19, eo19, el19, eL19, eA19, eB19, eg19, eh19, ec19⟩ := hd.at (((2 * (xs.getD t 0)).toNat)) (by have := hd.len; omega)
                refine hg_take 21 (by rfl) (want_t (dj := 80) (by rfl) (by kernel_rfl) rfl) (by rfl) rfl (by decide) (by kernel_rfl) (by kernel_rfl) (by kernel_rfl) (fun _ _ _ h => h) (Below.refl _ _) (fun q hq => y_ixR (s := s8) (el := 40) (k := 8) (i := ((2 * (xs.getD t 0)).toNat)) (iI := (((2 * (xs.getD t 0)).toNat : Nat) : Int)) eA19 (by kernel_rfl) (by kernel_rfl) (by omega) (by have := hd.len; omega) rfl rfl rfl) ?_
                refine hg_take 22 (by rfl) (want_t (dj := 80) (by rfl) (by kernel_rfl) rfl) (by rfl) rfl (by decide) (by kernel_rfl) (by kernel_rfl) (by kernel_rfl) (fun _ _ _ h => h) (Below.refl _ _) (fun q hq => y_fld (off := 0) (by kernel_rfl) rfl rfl) ?_
                refine hg_take 23 (by rfl) (want_t (dj := 80) (by rfl) (by kernel_rfl) rfl) (by rfl) rfl (by decide) (by kernel_rfl) (by kernel_rfl) (by kernel_rfl) (fun _ _ _ h => h) (Below.refl _ _) (fun q hq => y_celld ((hq.cell (p := ⟨eb19, _, none⟩) (show eb19 < _ by omega)).trans (ec19 0 _ rfl)) (by kernel_rfl) rfl rfl) ?_
                have f20 : eL19.kind = 0 := by rw [← atN_some eg19, hbl]
                refine hg_take 24 (by rfl) (want_t (dj := 80) (by rfl) (by kernel_rfl) rfl) (by rfl) rfl (by decide) (by kernel_rfl) (by kernel_rfl) (by kernel_rfl) (fun _ _ _ h => h) (Below.refl _ _) (fun q hq => yb (nd_f f20) (yi_neq rfl rfl rfl)) ?_
                refine zh 25 rfl rfl rfl rfl rfl (by kernel_rfl) (fun _ _ _ h => h) (fun q hq => y_pick true rfl rfl rfl) ?_
                refine hg_done (by kernel_rfl) ?_
                refine nx (zk5 0 1 2 7 8 rfl rfl rfl rfl rfl (zk2 9 91 rfl rfl fn)) ?_
                refine cg_cf rfl ?_
                refine cg_skip ?_
                refine nx (zk5 0 1 2 7 8 rfl rfl rfl rfl rfl (zk1 9 rfl fn)) ?_
                refine cg_seq ?_
                refine cg_region ?_
                refine zM rfl rfl rfl rfl rfl ?_
                refine zM rfl rfl rfl rfl rfl ?_
                have u := u.trans (dW15.mono u.size)
                have u := u.trans (hw17.mono u.size)
                refine lg_callw (want_none (by rfl)) (resolve_any (hd.more (B' := w17.heap.size) (by omega)) k (Nat.le_refl _) (Tt.up u rg).b) (by kernel_rfl) rfl rfl rfl (by decide) ?_
                rintro _ w21 ⟨s21, rfl, m21, hw21⟩
                have zw21 := hw21.size
                refine zA rfl rfl rfl rfl rfl ?_
                refine lg_nil ?_
                refine nx (zk5 0 1 2 7 8 rfl rfl rfl rfl rfl (zk2 9 10 rfl rfl fn)) ?_
                refine cg_seq ?_
                refine cg_region ?_
                refine zA rfl rfl rfl rfl rfl ?_
                refine lg_nil ?_
                refine nx (zk5 0 1 2 7 8 rfl rfl rfl rfl rfl (zk3 9 10 11 rfl rfl rfl fn)) ?_
                refine cg_block ?_
                obtain ⟨C2, hC2⟩ : ∃ q, q = w21.heap.size := ⟨_, rfl⟩
                have h := h.below (hw17.mono (by omega))
                have h := h.below (hw21.mono (by omega))
                have u := u.trans (hw21.mono u.size)
                have hd := hd.below (hw21.mono (by omega))
                have hn := hn.below (hw21.mono (by omega))
                refine cg_loopE (fun j a v => Holds 126 [(0, s.v), (1, r.v), (2, nv k), (7, .bool true), (8, s8.v), (9, nv ((t : Nat) : Int)), (10, s21.v), (11, nv ((j : Nat) : Int))] a ∧ RwNd v W.heap.size s Ls ∧ Below W.heap.size W v ∧ C ≤ v.heap.size ∧ W.heap.size ≤ C ∧ RwNd v C s8 (dropL xs (trAs Ls)) ∧ SlN v W.heap.size r xs ∧ t ≤ xs.length ∧ SlN v C2 s21 (resL (trAs (dropL xs (trAs Ls))) k) ∧ C2 ≤ v.heap.size ∧ j ≤ (resL (trAs (dropL xs (trAs Ls))) k).length) ((resL (trAs (dropL xs (trAs Ls))) k).length + 1) (fun a ha => ⟨ha.keep (fk rfl (fk rfl (fk rfl (fk rfl (fk rfl (fk rfl (fk rfl (fk rfl fn)))))))), h, u, (by omega), cW, hd, hn, tle, (m21.more (by omega)), (by omega), (Nat.zero_le _)⟩) ?_
                rintro j a v ht ⟨ha, h, u, cC, cW, hd, hn, tle, hr, cC2, jle⟩
                refine cg_at ha ?_
                clear ha a
                have zv := u.size
                have q1 := h.len
                have q2 := h.cap
                have q3 := hn.len
                have q4 := hn.cap
                have q5 := hd.len
                have q6 := hd.cap
                have q7 := hr.len
                have q8 := hr.cap
                refine cg_seq ?_
                refine cg_seq ?_
                refine cg_region ?_
                refine zM rfl rfl rfl rfl rfl ?_
                refine zM rfl rfl rfl rfl rfl ?_
                refine za rfl (y_lenM (el := 3) hr.len (by kernel_rfl) rfl rfl) rfl rfl ?_
                by_cases c22 : ((j : Nat) : Int) < ((resL (trAs (dropL xs (trAs Ls))) k).length : Int)
                · have hjn : j < (resL (trAs (dropL xs (trAs Ls))) k).length := by omega
                  refine za rfl (yb (decide_eq_true c22) (yi_lss rfl rfl rfl)) rfl rfl ?_
                  refine lg_nil ?_
                  refine nx (zk5 0 1 2 7 8 rfl rfl rfl rfl rfl (zk3 9 10 11 rfl rfl rfl (zk1 98 rfl fn))) ?_
                  refine cg_ct rfl ?_
                  refine cg_skip ?_
                  refine nx (zk5 0 1 2 7 8 rfl rfl rfl rfl rfl (zk3 9 10 11 rfl rfl rfl fn)) ?_
                  refine cg_seq ?_
                  refine cg_block ?_
                  refine cg_seq ?_
                  refine cg_still (by kernel_rfl) (by kernel_rfl) fun W23 eW23 => ?_
                  have dW23 := below_drew _ _ eW23
                  have zW23 := size_drew _ _ eW23
                  clear eW23
                  refine zsa rfl (y_move rfl rfl) rfl rfl ?_
                  refine zsa rfl (y_move rfl rfl) rfl rfl ?_
                  have hn := hn.below (dW23.mono (by omega))
                  refine zsa rfl (y_ixT (i := t) (iI := ((t : Nat) : Int)) hn (by omega) (by omega) rfl rfl rfl) rfl rfl ?_
                  refine zsa rfl (y_ldT (i := t) hn (by omega) rfl rfl) rfl rfl ?_
                  refine zsa rfl (yb (decide_eq_true c16) (yi_geq rfl rfl rfl)) rfl rfl ?_
                  refine zsa rfl (y_move rfl rfl) rfl rfl ?_
                  refine zst 106 rfl (by kernel_rfl) rfl (y_move rfl rfl) rfl rfl ?_
                  refine zst 106 rfl (by kernel_rfl) rfl (y_move rfl rfl) rfl rfl ?_
                  refine zst 106 rfl (by kernel_rfl) rfl (y_ixT (i := t) (iI := ((t : Nat) : Int)) hn (by omega) (by omega) rfl rfl rfl) rfl rfl ?_
                  refine zst 106 rfl (by kernel_rfl) rfl (y_ldT (i := t) hn (by omega) rfl rfl) rfl rfl ?_
                  by_cases c24 : (xs.getD t 0) < 64
                  · refine zst 106 rfl (by kernel_rfl) rfl (yb (decide_eq_true c24) (yi_lss rfl rfl rfl)) rfl rfl ?_
                    refine zsa rfl (y_pick true rfl rfl rfl) rfl rfl ?_
                    refine zsa rfl (y_move rfl rfl) rfl rfl ?_
                    refine zst 113 rfl (by kernel_rfl) rfl (y_move rfl rfl) rfl rfl ?_
                    refine zst 113 rfl (by kernel_rfl) rfl (y_move rfl rfl) rfl rfl ?_
                    have hr := hr.below (dW23.mono (by omega))
                    refine zst 113 rfl (by kernel_rfl) rfl (y_ixT (i := j) (iI := ((j : Nat) : Int)) hr (by omega) (by first | omega | (simp only [List.length_append, List.length_cons, List.length_nil]; omega)) rfl rfl rfl) rfl rfl ?_
                    refine zst 113 rfl (by kernel_rfl) rfl (y_ldT (i := j) hr (by first | omega | (simp only [List.length_append, List.length_cons, List.length_nil]; omega)) rfl rfl) rfl rfl ?_
                    refine zst 113 rfl (by kernel_rfl) rfl (y_move rfl rfl) rfl rfl ?_
                    refine zst 113 rfl (by kernel_rfl) rfl (y_move rfl rfl) rfl rfl ?_
                    refine zst 113 rfl (by kernel_rfl) rfl (y_ixT (i := t) (iI := ((t : Nat) : Int)) hn (by omega) (by omega) rfl rfl rfl) rfl rfl ?_
                    refine zst 113 rfl (by kernel_rfl) rfl (y_ldT (i := t) hn (by omega) rfl rfl) rfl rfl ?_
                    refine zst 113 rfl (by kernel_rfl) rfl (yi_mul rfl rfl rfl (by omega) (by omega)) rfl rfl ?_
                    refine zst 113 rfl (by kernel_rfl) rfl (yb (decide_eq_false (show ¬ (((resL (trAs (dropL xs (trAs Ls))) k).getD j 0) = (2 * (xs.getD t 0))) from (fun q => drop_nowhere (l := xs) (t := trAs Ls) (k := k) hxm (by omega) (by have z := getD_in hjn; rw [q, hda] at z; exact z)))) (yi_eql rfl rfl rfl)) rfl rfl ?_
                    refine zsa rfl (y_pick true rfl rfl rfl) rfl rfl ?_
                    refine sg_nil ?_
                    refine nx (zk5 0 1 2 7 8 rfl rfl rfl rfl rfl (zk3 9 10 11 rfl rfl rfl (zk1 124 rfl fn))) ?_
                    refine cg_cf rfl ?_
                    refine cg_skip ?_
                    refine eg_block_norm ?_
                    refine nx (zk5 0 1 2 7 8 rfl rfl rfl rfl rfl (zk3 9 10 11 rfl rfl rfl fn)) ?_
                    refine cg_region ?_
                    refine zM rfl rfl rfl rfl rfl ?_
                    refine za rfl (yv (congrArg nv (show ((j : Nat) : Int) + 1 = ((j + 1 : Nat) : Int) by omega)) (yi_add rfl rfl rfl (by omega) (by omega))) rfl rfl ?_
                    refine zA rfl rfl rfl rfl rfl ?_
                    refine lg_nil ?_
                    have h := h.below (dW23.mono (by omega))
                    have u := u.trans (dW23.mono u.size)
                    have hd := hd.below (dW23.mono (by omega))
                    exact fun a ha => (show j < ((resL (trAs (dropL xs (trAs Ls))) k).length + 1) ∧ _ from ⟨(by omega), ha.keep (fk rfl (fk rfl (fk rfl (fk rfl (fk rfl (fk rfl (fk rfl (fk rfl fn)))))))), h, u, (by omega), cW, hd, hn, tle, hr, (by omega), (by omega)⟩)
                  · refine zst 106 rfl (by kernel_rfl) rfl (yb (decide_eq_false c24) (yi_lss rfl rfl rfl)) rfl rfl ?_
                    refine zsa rfl (y_pick true rfl rfl rfl) rfl rfl ?_
                    refine zsa rfl (y_move rfl rfl) rfl rfl ?_
                    refine zsf 113 rfl (by kernel_rfl) rfl rfl rfl ?_
                    refine zsf 113 rfl (by kernel_rfl) rfl rfl rfl ?_
                    refine zsf 113 rfl (by kernel_rfl) rfl rfl rfl ?_
                    refine zsf 113 rfl (by kernel_rfl) rfl rfl rfl ?_
                    refine zsf 113 rfl (by kernel_rfl) rfl rfl rfl ?_
                    refine zsf 113 rfl (by kernel_rfl) rfl rfl rfl ?_
                    refine zsf 113 rfl (by kernel_rfl) rfl rfl rfl ?_
                    refine zsf 113 rfl (by kernel_rfl) rfl rfl rfl ?_
                    refine zsf 113 rfl (by kernel_rfl) rfl rfl rfl ?_
                    refine zsf 113 rfl (by kernel_rfl) rfl rfl rfl ?_
                    refine zsa rfl (y_pick false rfl rfl rfl) rfl rfl ?_
                    refine sg_nil ?_
                    refine nx (zk5 0 1 2 7 8 rfl rfl rfl rfl rfl (zk3 9 10 11 rfl rfl rfl (zk1 124 rfl fn))) ?_
                    refine cg_cf rfl ?_
                    refine cg_skip ?_
                    refine eg_block_norm ?_
                    refine nx (zk5 0 1 2 7 8 rfl rfl rfl rfl rfl (zk3 9 10 11 rfl rfl rfl fn)) ?_
                    refine cg_region ?_
                    refine zM rfl rfl rfl rfl rfl ?_
                    refine za rfl (yv (congrArg nv (show ((j : Nat) : Int) + 1 = ((j + 1 : Nat) : Int) by omega)) (yi_add rfl rfl rfl (by omega) (by omega))) rfl rfl ?_
                    refine zA rfl rfl rfl rfl rfl ?_
                    refine lg_nil ?_
                    have h := h.below (dW23.mono (by omega))
                    have u := u.trans (dW23.mono u.size)
                    have hd := hd.below (dW23.mono (by omega))
                    have hr := hr.below (dW23.mono (by omega))
                    exact fun a ha => (show j < ((resL (trAs (dropL xs (trAs Ls))) k).length + 1) ∧ _ from ⟨(by omega), ha.keep (fk rfl (fk rfl (fk rfl (fk rfl (fk rfl (fk rfl (fk rfl (fk rfl fn)))))))), h, u, (by omega), cW, hd, hn, tle, hr, (by omega), (by omega)⟩)
                · refine za rfl (yb (decide_eq_false c22) (yi_lss rfl rfl rfl)) rfl rfl ?_
                  refine lg_nil ?_
                  refine nx (zk5 0 1 2 7 8 rfl rfl rfl rfl rfl (zk3 9 10 11 rfl rfl rfl (zk1 98 rfl fn))) ?_
                  refine cg_cf rfl ?_
                  refine cg_exit ?_
                  refine eg_seq_exit ?_
                  refine eg_seq_exit ?_
                  refine eg_block_exit ?_
                  refine eg_block_norm ?_
                  refine nx (zk5 0 1 2 7 8 rfl rfl rfl rfl rfl (zk1 9 rfl fn)) ?_
                  refine cg_region ?_
                  refine zM rfl rfl rfl rfl rfl ?_
                  refine za rfl (yv (congrArg nv (show ((t : Nat) : Int) + 1 = ((t + 1 : Nat) : Int) by omega)) (yi_add rfl rfl rfl (by omega) (by omega))) rfl rfl ?_
                  refine zA rfl rfl rfl rfl rfl ?_
                  refine lg_nil ?_
                  exact fun a ha => (show t < (xs.length + 1) ∧ _ from ⟨(by omega), ha.keep (fk rfl (fk rfl (fk rfl (fk rfl (fk rfl (fk rfl fn)))))), h, u, cC, cW, hd, hn, (by omega)⟩)
              · refine hg_take 12 (by rfl) (want_t (dj := 71) (by rfl) (by kernel_rfl) rfl) (by rfl) rfl (by decide) (by kernel_rfl) (by kernel_rfl) (by kernel_rfl) (fun _ _ _ h => h) (Below.refl _ _) (fun q hq => yb (decide_eq_false c18) (yi_lss rfl rfl rfl)) ?_
                refine zh 13 rfl rfl rfl rfl rfl (by kernel_rfl) (fun _ _ _ h => h) (fun q hq => y_pick true rfl rfl rfl) ?_
                refine zh 14 rfl rfl rfl rfl rfl (by kernel_rfl) (fun _ _ _ h => h) (fun q hq => y_move rfl rfl) ?_
                refine hg_skip 15 (by rfl) (want_f (dj := 80) (by rfl) (by kernel_rfl) rfl) rfl (by decide) (by kernel_rfl) (by kernel_rfl) (by kernel_rfl) (fun _ _ _ h => h) (Below.refl _ _) ?_
                refine hg_skip 16 (by rfl) (want_f (dj := 80) (by rfl) (by kernel_rfl) rfl) rfl (by decide) (by kernel_rfl) (by kernel_rfl) (by kernel_rfl) (fun _ _ _ h => h) (Below.refl _ _) ?_
                refine hg_skip 17 (by rfl) (want_f (dj := 80) (by rfl) (by kernel_rfl) rfl) rfl (by decide) (by kernel_rfl) (by kernel_rfl) (by kernel_rfl) (fun _ _ _ h => h) (Below.refl _ _) ?_
                refine hg_skip 18 (by rfl) (want_f (dj := 80) (by rfl) (by kernel_rfl) rfl) rfl (by decide) (by kernel_rfl) (by kernel_rfl) (by kernel_rfl) (fun _ _ _ h => h) (Below.refl _ _) ?_
                refine hg_skip 19 (by rfl) (want_f (dj := 80) (by rfl) (by kernel_rfl) rfl) rfl (by decide) (by kernel_rfl) (by kernel_rfl) (by kernel_rfl) (fun _ _ _ h => h) (Below.refl _ _) ?_
                refine hg_skip 20 (by rfl) (want_f (dj := 80) (by rfl) (by kernel_rfl) rfl) rfl (by decide) (by kernel_rfl) (by kernel_rfl) (by kernel_rfl) (fun _ _ _ h => h) (Below.refl _ _) ?_
                refine hg_skip 21 (by rfl) (want_f (dj := 80) (by rfl) (by kernel_rfl) rfl) rfl (by decide) (by kernel_rfl) (by kernel_rfl) (by kernel_rfl) (fun _ _ _ h => h) (Below.refl _ _) ?_
                refine hg_skip 22 (by rfl) (want_f (dj := 80) (by rfl) (by kernel_rfl) rfl) rfl (by decide) (by kernel_rfl) (by kernel_rfl) (by kernel_rfl) (fun _ _ _ h => h) (Below.refl _ _) ?_
                refine hg_skip 23 (by rfl) (want_f (dj := 80) (by rfl) (by kernel_rfl) rfl) rfl (by decide) (by kernel_rfl) (by kernel_rfl) (by kernel_rfl) (fun _ _ _ h => h) (Below.refl _ _) ?_
                refine hg_skip 24 (by rfl) (want_f (dj := 80) (by rfl) (by kernel_rfl) rfl) rfl (by decide) (by kernel_rfl) (by kernel_rfl) (by kernel_rfl) (fun _ _ _ h => h) (Below.refl _ _) ?_
                refine zh 25 rfl rfl rfl rfl rfl (by kernel_rfl) (fun _ _ _ h => h) (fun q hq => y_pick false rfl rfl rfl) ?_
                refine hg_done (by kernel_rfl) ?_
                refine nx (zk5 0 1 2 7 8 rfl rfl rfl rfl rfl (zk2 9 91 rfl rfl fn)) ?_
                refine cg_cf rfl ?_
                refine cg_skip ?_
                refine nx (zk5 0 1 2 7 8 rfl rfl rfl rfl rfl (zk1 9 rfl fn)) ?_
                refine cg_seq ?_
                refine cg_region ?_
                refine zM rfl rfl rfl rfl rfl ?_
                refine zM rfl rfl rfl rfl rfl ?_
                have hd := hd.below (dW15.mono (by omega))
                have hd := hd.below (hw17.mono (by omega))
                have u := u.trans (dW15.mono u.size)
                have u := u.trans (hw17.mono u.size)
                refine lg_callw (want_none (by rfl)) (resolve_any (hd.more (B' := w17.heap.size) (by omega)) k (Nat.le_refl _) (Tt.up u rg).b) (by kernel_rfl) rfl rfl rfl (by decide) ?_
                rintro _ w25 ⟨s25, rfl, m25, hw25⟩
                have zw25 := hw25.size
                refine zA rfl rfl rfl rfl rfl ?_
                refine lg_nil ?_
                refine nx (zk5 0 1 2 7 8 rfl rfl rfl rfl rfl (zk2 9 10 rfl rfl fn)) ?_
                refine cg_seq ?_
                refine cg_region ?_
                refine zA rfl rfl rfl rfl rfl ?_
                refine lg_nil ?_
                refine nx (zk5 0 1 2 7 8 rfl rfl rfl rfl rfl (zk3 9 10 11 rfl rfl rfl fn)) ?_
                refine cg_block ?_
                obtain ⟨C2, hC2⟩ : ∃ q, q = w25.heap.size := ⟨_, rfl⟩
                have h := h.below (hw17.mono (by omega))
                have h := h.below (hw25.mono (by omega))
                have u := u.trans (hw25.mono u.size)
                have hd := hd.below (hw25.mono (by omega))
                have hn := hn.below (hw17.mono (by omega))
                have hn := hn.below (hw25.mono (by omega))
                refine cg_loopE (fun j a v => Holds 126 [(0, s.v), (1, r.v), (2, nv k), (7, .bool true), (8, s8.v), (9, nv ((t : Nat) : Int)), (10, s25.v), (11, nv ((j : Nat) : Int))] a ∧ RwNd v W.heap.size s Ls ∧ Below W.heap.size W v ∧ C ≤ v.heap.size ∧ W.heap.size ≤ C ∧ RwNd v C s8 (dropL xs (trAs Ls)) ∧ SlN v W.heap.size r xs ∧ t ≤ xs.length ∧ SlN v C2 s25 (resL (trAs (dropL xs (trAs Ls))) k) ∧ C2 ≤ v.heap.size ∧ j ≤ (resL (trAs (dropL xs (trAs Ls))) k).length) ((resL (trAs (dropL xs (trAs Ls))) k).length + 1) (fun a ha => ⟨ha.keep (fk rfl (fk rfl (fk rfl (fk rfl (fk rfl (fk rfl (fk rfl (fk rfl fn)))))))), h, u, (by omega), cW, hd, hn, tle, (m25.more (by omega)), (by omega), (Nat.zero_le _)⟩) ?_
                rintro j a v ht ⟨ha, h, u, cC, cW, hd, hn, tle, hr, cC2, jle⟩
                refine cg_at ha ?_
                clear ha a
                have zv := u.size
                have q1 := h.len
                have q2 := h.cap
                have q3 := hn.len
                have q4 := hn.cap
                have q5 := hd.len
                have q6 := hd.cap
                have q7 := hr.len
                have q8 := hr.cap
                refine cg_seq ?_
                refine cg_seq ?_
                refine cg_region ?_
                refine zM rfl rfl rfl rfl rfl ?_
                refine zM rfl rfl rfl rfl rfl ?_
                refine za rfl (y_lenM (el := 3) hr.len (by kernel_rfl) rfl rfl) rfl rfl ?_
                by_cases c26 : ((j : Nat) : Int) < ((resL (trAs (dropL xs (trAs Ls))) k).length : Int)
                · have hjn : j < (resL (trAs (dropL xs (trAs Ls))) k).length := by omega
                  refine za rfl (yb (decide_eq_true c26) (yi_lss rfl rfl rfl)) rfl rfl ?_
                  refine lg_nil ?_
                  refine nx (zk5 0 1 2 7 8 rfl rfl rfl rfl rfl (zk3 9 10 11 rfl rfl rfl (zk1 98 rfl fn))) ?_
                  refine cg_ct rfl ?_
                  refine cg_skip ?_
                  refine nx (zk5 0 1 2 7 8 rfl rfl rfl rfl rfl (zk3 9 10 11 rfl rfl rfl fn)) ?_
                  refine cg_seq ?_
                  refine cg_block ?_
                  refine cg_seq ?_
                  refine cg_still (by kernel_rfl) (by kernel_rfl) fun W27 eW27 => ?_
                  have dW27 := below_drew _ _ eW27
                  have zW27 := size_drew _ _ eW27
                  clear eW27
                  refine zsa rfl (y_move rfl rfl) rfl rfl ?_
                  refine zsa rfl (y_move rfl rfl) rfl rfl ?_
                  have hn := hn.below (dW27.mono (by omega))
                  refine zsa rfl (y_ixT (i := t) (iI := ((t : Nat) : Int)) hn (by omega) (by omega) rfl rfl rfl) rfl rfl ?_
                  refine zsa rfl (y_ldT (i := t) hn (by omega) rfl rfl) rfl rfl ?_
                  refine zsa rfl (yb (decide_eq_true c16) (yi_geq rfl rfl rfl)) rfl rfl ?_
                  refine zsa rfl (y_move rfl rfl) rfl rfl ?_
                  refine zst 106 rfl (by kernel_rfl) rfl (y_move rfl rfl) rfl rfl ?_
                  refine zst 106 rfl (by kernel_rfl) rfl (y_move rfl rfl) rfl rfl ?_
                  refine zst 106 rfl (by kernel_rfl) rfl (y_ixT (i := t) (iI := ((t : Nat) : Int)) hn (by omega) (by omega) rfl rfl rfl) rfl rfl ?_
                  refine zst 106 rfl (by kernel_rfl) rfl (y_ldT (i := t) hn (by omega) rfl rfl) rfl rfl ?_
                  by_cases c28 : (xs.getD t 0) < 64
                  · refine zst 106 rfl (by kernel_rfl) rfl (yb (decide_eq_true c28) (yi_lss rfl rfl rfl)) rfl rfl ?_
                    refine zsa rfl (y_pick true rfl rfl rfl) rfl rfl ?_
                    refine zsa rfl (y_move rfl rfl) rfl rfl ?_
                    refine zst 113 rfl (by kernel_rfl) rfl (y_move rfl rfl) rfl rfl ?_
                    refine zst 113 rfl (by kernel_rfl) rfl (y_move rfl rfl) rfl rfl ?_
                    have hr := hr.below (dW27.mono (by omega))
                    refine zst 113 rfl (by kernel_rfl) rfl (y_ixT (i := j) (iI := ((j : Nat) : Int)) hr (by omega) (by first | omega | (simp only [List.length_append, List.length_cons, List.length_nil]; omega)) rfl rfl rfl) rfl rfl ?_
                    refine zst 113 rfl (by kernel_rfl) rfl (y_ldT (i := j) hr (by first | omega | (simp only [List.length_append, List.length_cons, List.length_nil]; omega)) rfl rfl) rfl rfl ?_
                    refine zst 113 rfl (by kernel_rfl) rfl (y_move rfl rfl) rfl rfl ?_
                    refine zst 113 rfl (by kernel_rfl) rfl (y_move rfl rfl) rfl rfl ?_
                    refine zst 113 rfl (by kernel_rfl) rfl (y_ixT (i := t) (iI := ((t : Nat) : Int)) hn (by omega) (by omega) rfl rfl rfl) rfl rfl ?_
                    refine zst 113 rfl (by kernel_rfl) rfl (y_ldT (i := t) hn (by omega) rfl rfl) rfl rfl ?_
                    refine zst 113 rfl (by kernel_rfl) rfl (yi_mul rfl rfl rfl (by omega) (by omega)) rfl rfl ?_
                    refine zst 113 rfl (by kernel_rfl) rfl (yb (decide_eq_false (show ¬ (((resL (trAs (dropL xs (trAs Ls))) k).getD j 0) = (2 * (xs.getD t 0))) from (fun q => drop_nowhere (l := xs) (t := trAs Ls) (k := k) hxm (by omega) (by have z := getD_in hjn; rw [q, hda] at z; exact z)))) (yi_eql rfl rfl rfl)) rfl rfl ?_
                    refine zsa rfl (y_pick true rfl rfl rfl) rfl rfl ?_
                    refine sg_nil ?_
                    refine nx (zk5 0 1 2 7 8 rfl rfl rfl rfl rfl (zk3 9 10 11 rfl rfl rfl (zk1 124 rfl fn))) ?_
                    refine cg_cf rfl ?_
                    refine cg_skip ?_
                    refine eg_block_norm ?_
                    refine nx (zk5 0 1 2 7 8 rfl rfl rfl rfl rfl (zk3 9 10 11 rfl rfl rfl fn)) ?_
                    refine cg_region ?_
                    refine zM rfl rfl rfl rfl rfl ?_
                    refine za rfl (yv (congrArg nv (show ((j : Nat) : Int) + 1 = ((j + 1 : Nat) : Int) by omega)) (yi_add rfl rfl rfl (by omega) (by omega))) rfl rfl ?_
                    refine zA rfl rfl rfl rfl rfl ?_
                    refine lg_nil ?_
                    have h := h.below (dW27.mono (by omega))
                    have u := u.trans (dW27.mono u.size)
                    have hd := hd.below (dW27.mono (by omega))
                    exact fun a ha => (show j < ((resL (trAs (dropL xs (trAs Ls))) k).length + 1) ∧ _ from ⟨(by omega), ha.keep (fk rfl (fk rfl (fk rfl (fk rfl (fk rfl (fk rfl (fk rfl (fk rfl fn)))))))), h, u, (by omega), cW, hd, hn, tle, hr, (by omega), (by omega)⟩)
                  · refine zst 106 rfl (by kernel_rfl) rfl (yb (decide_eq_false c28) (yi_lss rfl rfl rfl)) rfl rfl ?_
                    refine zsa rfl (y_pick true rfl rfl rfl) rfl rfl ?_
                    refine zsa rfl (y_move rfl rfl) rfl rfl ?_
                    refine zsf 113 rfl (by kernel_rfl) rfl rfl rfl ?_
                    refine zsf 113 rfl (by kernel_rfl) rfl rfl rfl ?_
                    refine zsf 113 rfl (by kernel_rfl) rfl rfl rfl ?_
                    refine zsf 113 rfl (by kernel_rfl) rfl rfl rfl ?_
                    refine zsf 113 rfl (by kernel_rfl) rfl rfl rfl ?_
                    refine zsf 113 rfl (by kernel_rfl) rfl rfl rfl ?_
                    refine zsf 113 rfl (by kernel_rfl) rfl rfl rfl ?_
                    refine zsf 113 rfl (by kernel_rfl) rfl rfl rfl ?_
                    refine zsf 113 rfl (by kernel_rfl) rfl rfl rfl ?_
                    refine zsf 113 rfl (by kernel_rfl) rfl rfl rfl ?_
                    refine zsa rfl (y_pick false rfl rfl rfl) rfl rfl ?_
                    refine sg_nil ?_
                    refine nx (zk5 0 1 2 7 8 rfl rfl rfl rfl rfl (zk3 9 10 11 rfl rfl rfl (zk1 124 rfl fn))) ?_
                    refine cg_cf rfl ?_
                    refine cg_skip ?_
                    refine eg_block_norm ?_
                    refine nx (zk5 0 1 2 7 8 rfl rfl rfl rfl rfl (zk3 9 10 11 rfl rfl rfl fn)) ?_
                    refine cg_region ?_
                    refine zM rfl rfl rfl rfl rfl ?_
                    refine za rfl (yv (congrArg nv (show ((j : Nat) : Int) + 1 = ((j + 1 : Nat) : Int) by omega)) (yi_add rfl rfl rfl (by omega) (by omega))) rfl rfl ?_
                    refine zA rfl rfl rfl rfl rfl ?_
                    refine lg_nil ?_
                    have h := h.below (dW27.mono (by omega))
                    have u := u.trans (dW27.mono u.size)
                    have hd := hd.below (dW27.mono (by omega))
                    have hr := hr.below (dW27.mono (by omega))
                    exact fun a ha => (show j < ((resL (trAs (dropL xs (trAs Ls))) k).length + 1) ∧ _ from ⟨(by omega), ha.keep (fk rfl (fk rfl (fk rfl (fk rfl (fk rfl (fk rfl (fk rfl (fk rfl fn)))))))), h, u, (by omega), cW, hd, hn, tle, hr, (by omega), (by omega)⟩)
                · refine za rfl (yb (decide_eq_false c26) (yi_lss rfl rfl rfl)) rfl rfl ?_
                  refine lg_nil ?_
                  refine nx (zk5 0 1 2 7 8 rfl rfl rfl rfl rfl (zk3 9 10 11 rfl rfl rfl (zk1 98 rfl fn))) ?_
                  refine cg_cf rfl ?_
                  refine cg_exit ?_
                  refine eg_seq_exit ?_
                  refine eg_seq_exit ?_
                  refine eg_block_exit ?_
                  refine eg_block_norm ?_
                  refine nx (zk5 0 1 2 7 8 rfl rfl rfl rfl rfl (zk1 9 rfl fn)) ?_
                  refine cg_region ?_
                  refine zM rfl rfl rfl rfl rfl ?_
                  refine za rfl (yv (congrArg nv (show ((t : Nat) : Int) + 1 = ((t + 1 : Nat) : Int) by omega)) (yi_add rfl rfl rfl (by omega) (by omega))) rfl rfl ?_
                  refine zA rfl rfl rfl rfl rfl ?_
                  refine lg_nil ?_
                  exact fun a ha => (show t < (xs.length + 1) ∧ _ from ⟨(by omega), ha.keep (fk rfl (fk rfl (fk rfl (fk rfl (fk rfl (fk rfl fn)))))), h, u, cC, cW, hd, hn, (by omega)⟩)
            · refine zh 4 rfl rfl rfl rfl rfl (by kernel_rfl) (fun _ _ _ h => h) (fun q hq => yb (decide_eq_false c16) (yi_geq rfl rfl rfl)) ?_
              refine zh 5 rfl rfl rfl rfl rfl (by kernel_rfl) (fun _ _ _ h => h) (fun q hq => y_move rfl rfl) ?_
              refine hg_skip 6 (by rfl) (want_f (dj := 71) (by rfl) (by kernel_rfl) rfl) rfl (by decide) (by kernel_rfl) (by kernel_rfl) (by kernel_rfl) (fun _ _ _ h => h) (Below.refl _ _) ?_
              refine hg_skip 7 (by rfl) (want_f (dj := 71) (by rfl) (by kernel_rfl) rfl) rfl (by decide) (by kernel_rfl) (by kernel_rfl) (by kernel_rfl) (fun _ _ _ h => h) (Below.refl _ _) ?_
              refine hg_skip 8 (by rfl) (want_f (dj := 71) (by rfl) (by kernel_rfl) rfl) rfl (by decide) (by kernel_rfl) (by kernel_rfl) (by kernel_rfl) (fun _ _ _ h => h) (Below.refl _ _) ?_
              refine hg_skip 9 (by rfl) (want_f (dj := 71) (by rfl) (by kernel_rfl) rfl) rfl (by decide) (by kernel_rfl) (by kernel_rfl) (by kernel_rfl) (fun _ _ _ h => h) (Below.refl _ _) ?_
              refine hg_skip 10 (by rfl) (want_f (dj := 71) (by rfl) (by kernel_rfl) rfl) rfl (by decide) (by kernel_rfl) (by kernel_rfl) (by kernel_rfl) (fun _ _ _ h => h) (Below.refl _ _) ?_
              refine hg_skip1 11 (Below.refl _ _) (by rfl) (want_f (dj := 71) (by rfl) (by kernel_rfl) rfl) rfl (by decide) (by kernel_rfl) ?_
              refine hg_skip 12 (by rfl) (want_f (dj := 71) (by rfl) (by kernel_rfl) rfl) rfl (by decide) (by kernel_rfl) (by kernel_rfl) (by kernel_rfl) (fun _ _ _ h => h) (Below.refl _ _) ?_
              refine zh 13 rfl rfl rfl rfl rfl (by kernel_rfl) (fun _ _ _ h => h) (fun q hq => y_pick false rfl rfl rfl) ?_
              refine zh 14 rfl rfl rfl rfl rfl (by kernel_rfl) (fun _ _ _ h => h) (fun q hq => y_move rfl rfl) ?_
              refine hg_skip 15 (by rfl) (want_f (dj := 80) (by rfl) (by kernel_rfl) rfl) rfl (by decide) (by kernel_rfl) (by kernel_rfl) (by kernel_rfl) (fun _ _ _ h => h) (Below.refl _ _) ?_
              refine hg_skip 16 (by rfl) (want_f (dj := 80) (by rfl) (by kernel_rfl) rfl) rfl (by decide) (by kernel_rfl) (by kernel_rfl) (by kernel_rfl) (fun _ _ _ h => h) (Below.refl _ _) ?_
              refine hg_skip 17 (by rfl) (want_f (dj := 80) (by rfl) (by kernel_rfl) rfl) rfl (by decide) (by kernel_rfl) (by kernel_rfl) (by kernel_rfl) (fun _ _ _ h => h) (Below.refl _ _) ?_
              refine hg_skip 18 (by rfl) (want_f (dj := 80) (by rfl) (by kernel_rfl) rfl) rfl (by decide) (by kernel_rfl) (by kernel_rfl) (by kernel_rfl) (fun _ _ _ h => h) (Below.refl _ _) ?_
              refine hg_skip 19 (by rfl) (want_f (dj := 80) (by rfl) (by kernel_rfl) rfl) rfl (by decide) (by kernel_rfl) (by kernel_rfl) (by kernel_rfl) (fun _ _ _ h => h) (Below.refl _ _) ?_
              refine hg_skip 20 (by rfl) (want_f (dj := 80) (by rfl) (by kernel_rfl) rfl) rfl (by decide) (by kernel_rfl) (by kernel_rfl) (by kernel_rfl) (fun _ _ _ h => h) (Below.refl _ _) ?_
              refine hg_skip 21 (by rfl) (want_f (dj := 80) (by rfl) (by kernel_rfl) rfl) rfl (by decide) (by kernel_rfl) (by kernel_rfl) (by kernel_rfl) (fun _ _ _ h => h) (Below.refl _ _) ?_
              refine hg_skip 22 (by rfl) (want_f (dj := 80) (by rfl) (by kernel_rfl) rfl) rfl (by decide) (by kernel_rfl) (by kernel_rfl) (by kernel_rfl) (fun _ _ _ h => h) (Below.refl _ _) ?_
              refine hg_skip 23 (by rfl) (want_f (dj := 80) (by rfl) (by kernel_rfl) rfl) rfl (by decide) (by kernel_rfl) (by kernel_rfl) (by kernel_rfl) (fun _ _ _ h => h) (Below.refl _ _) ?_
              refine hg_skip 24 (by rfl) (want_f (dj := 80) (by rfl) (by kernel_rfl) rfl) rfl (by decide) (by kernel_rfl) (by kernel_rfl) (by kernel_rfl) (fun _ _ _ h => h) (Below.refl _ _) ?_
              refine zh 25 rfl rfl rfl rfl rfl (by kernel_rfl) (fun _ _ _ h => h) (fun q hq => y_pick false rfl rfl rfl) ?_
              refine hg_done (by kernel_rfl) ?_
              refine nx (zk5 0 1 2 7 8 rfl rfl rfl rfl rfl (zk2 9 91 rfl rfl fn)) ?_
              refine cg_cf rfl ?_
              refine cg_skip ?_
              refine nx (zk5 0 1 2 7 8 rfl rfl rfl rfl rfl (zk1 9 rfl fn)) ?_
              refine cg_seq ?_
              refine cg_region ?_
              refine zM rfl rfl rfl rfl rfl ?_
              refine zM rfl rfl rfl rfl rfl ?_
              have hd := hd.below (dW15.mono (by omega))
              have u := u.trans (dW15.mono u.size)
              refine lg_callw (want_none (by rfl)) (resolve_any (hd.more (B' := W15.heap.size) (by omega)) k (Nat.le_refl _) (Tt.up u rg).b) (by kernel_rfl) rfl rfl rfl (by decide) ?_
              rintro _ w29 ⟨s29, rfl, m29, hw29⟩
              have zw29 := hw29.size
              refine zA rfl rfl rfl rfl rfl ?_
              refine lg_nil ?_
              refine nx (zk5 0 1 2 7 8 rfl rfl rfl rfl rfl (zk2 9 10 rfl rfl fn)) ?_
              refine cg_seq ?_
              refine cg_region ?_
              refine zA rfl rfl rfl rfl rfl ?_
              refine lg_nil ?_
              refine nx (zk5 0 1 2 7 8 rfl rfl rfl rfl rfl (zk3 9 10 11 rfl rfl rfl fn)) ?_
              refine cg_block ?_
              obtain ⟨C2, hC2⟩ : ∃ q, q = w29.heap.size := ⟨_, rfl⟩
              have h := h.below (dW15.mono (by omega))
              have h := h.below (hw29.mono (by omega))
              have u := u.trans (hw29.mono u.size)
              have hd := hd.below (hw29.mono (by omega))
              have hn := hn.below (hw29.mono (by omega))
              refine cg_loopE (fun j a v => Holds 126 [(0, s.v), (1, r.v), (2, nv k), (7, .bool true), (8, s8.v), (9, nv ((t : Nat) : Int)), (10, s29.v), (11, nv ((j : Nat) : Int))] a ∧ RwNd v W.heap.size s Ls ∧ Below W.heap.size W v ∧ C ≤ v.heap.size ∧ W.heap.size ≤ C ∧ RwNd v C s8 (dropL xs (trAs Ls)) ∧ SlN v W.heap.size r xs ∧ t ≤ xs.length ∧ SlN v C2 s29 (resL (trAs (dropL xs (trAs Ls))) k) ∧ C2 ≤ v.heap.size ∧ j ≤ (resL (trAs (dropL xs (trAs Ls))) k).length) ((resL (trAs (dropL xs (trAs Ls))) k).length + 1) (fun a ha => ⟨ha.keep (fk rfl (fk rfl (fk rfl (fk rfl (fk rfl (fk rfl (fk rfl (fk rfl fn)))))))), h, u, (by omega), cW, hd, hn, tle, (m29.more (by omega)), (by omega), (Nat.zero_le _)⟩) ?_
              rintro j a v ht ⟨ha, h, u, cC, cW, hd, hn, tle, hr, cC2, jle⟩
              refine cg_at ha ?_
              clear ha a
              have zv := u.size
              have q1 := h.len
              have q2 := h.cap
              have q3 := hn.len
              have q4 := hn.cap
              have q5 := hd.len
              have q6 := hd.cap
              have q7 := hr.len
              have q8 := hr.cap
              refine cg_seq ?_
              refine cg_seq ?_
              refine cg_region ?_
              refine zM rfl rfl rfl rfl rfl ?_
              refine zM rfl rfl rfl rfl rfl ?_
              refine za rfl (y_lenM (el := 3) hr.len (by kernel_rfl) rfl rfl) rfl rfl ?_
              by_cases c30 : ((j : Nat) : Int) < ((resL (trAs (dropL xs (trAs Ls))) k).length : Int)
              · have hjn : j < (resL (trAs (dropL xs (trAs Ls))) k).length := by omega
                refine za rfl (yb (decide_eq_true c30) (yi_lss rfl rfl rfl)) rfl rfl ?_
                refine lg_nil ?_
                refine nx (zk5 0 1 2 7 8 rfl rfl rfl rfl rfl (zk3 9 10 11 rfl rfl rfl (zk1 98 rfl fn))) ?_
                refine cg_ct rfl ?_
                refine cg_skip ?_
                refine nx (zk5 0 1 2 7 8 rfl rfl rfl rfl rfl (zk3 9 10 11 rfl rfl rfl fn)) ?_
                refine cg_seq ?_
                refine cg_block ?_
                refine cg_seq ?_
                refine cg_still (by kernel_rfl) (by kernel_rfl) fun W31 eW31 => ?_
                have dW31 := below_drew _ _ eW31
                have zW31 := size_drew _ _ eW31
                clear eW31
                refine zsa rfl (y_move rfl rfl) rfl rfl ?_
                refine zsa rfl (y_move rfl rfl) rfl rfl ?_
                have hn := hn.below (dW31.mono (by omega))
                refine zsa rfl (y_ixT (i := t) (iI := ((t : Nat) : Int)) hn (by omega) (by omega) rfl rfl rfl) rfl rfl ?_
                refine zsa rfl (y_ldT (i := t) hn (by omega) rfl rfl) rfl rfl ?_
                refine zsa rfl (yb (decide_eq_false c16) (yi_geq rfl rfl rfl)) rfl rfl ?_
                refine zsa rfl (y_move rfl rfl) rfl rfl ?_
                refine zsf 106 rfl (by kernel_rfl) rfl rfl rfl ?_
                refine zsf 106 rfl (by kernel_rfl) rfl rfl rfl ?_
                refine zsf 106 rfl (by kernel_rfl) rfl rfl rfl ?_
                refine zsf 106 rfl (by kernel_rfl) rfl rfl rfl ?_
                refine zsf 106 rfl (by kernel_rfl) rfl rfl rfl ?_
                refine zsa rfl (y_pick false rfl rfl rfl) rfl rfl ?_
                refine zsa rfl (y_move rfl rfl) rfl rfl ?_
                refine zsf 113 rfl (by kernel_rfl) rfl rfl rfl ?_
                refine zsf 113 rfl (by kernel_rfl) rfl rfl rfl ?_
                refine zsf 113 rfl (by kernel_rfl) rfl rfl rfl ?_
                refine zsf 113 rfl (by kernel_rfl) rfl rfl rfl ?_
                refine zsf 113 rfl (by kernel_rfl) rfl rfl rfl ?_
                refine zsf 113 rfl (by kernel_rfl) rfl rfl rfl ?_
                refine zsf 113 rfl (by kernel_rfl) rfl rfl rfl ?_
                refine zsf 113 rfl (by kernel_rfl) rfl rfl rfl ?_
                refine zsf 113 rfl (by kernel_rfl) rfl rfl rfl ?_
                refine zsf 113 rfl (by kernel_rfl) rfl rfl rfl ?_
                refine zsa rfl (y_pick false rfl rfl rfl) rfl rfl ?_
                refine sg_nil ?_
                refine nx (zk5 0 1 2 7 8 rfl rfl rfl rfl rfl (zk3 9 10 11 rfl rfl rfl (zk1 124 rfl fn))) ?_
                refine cg_cf rfl ?_
                refine cg_skip ?_
                refine eg_block_norm ?_
                refine nx (zk5 0 1 2 7 8 rfl rfl rfl rfl rfl (zk3 9 10 11 rfl rfl rfl fn)) ?_
                refine cg_region ?_
                refine zM rfl rfl rfl rfl rfl ?_
                refine za rfl (yv (congrArg nv (show ((j : Nat) : Int) + 1 = ((j + 1 : Nat) : Int) by omega)) (yi_add rfl rfl rfl (by omega) (by omega))) rfl rfl ?_
                refine zA rfl rfl rfl rfl rfl ?_
                refine lg_nil ?_
                have h := h.below (dW31.mono (by omega))
                have u := u.trans (dW31.mono u.size)
                have hd := hd.below (dW31.mono (by omega))
                have hr := hr.below (dW31.mono (by omega))
                exact fun a ha => (show j < ((resL (trAs (dropL xs (trAs Ls))) k).length + 1) ∧ _ from ⟨(by omega), ha.keep (fk rfl (fk rfl (fk rfl (fk rfl (fk rfl (fk rfl (fk rfl (fk rfl fn)))))))), h, u, (by omega), cW, hd, hn, tle, hr, (by omega), (by omega)⟩)
              · refine za rfl (yb (decide_eq_false c30) (yi_lss rfl rfl rfl)) rfl rfl ?_
                refine lg_nil ?_
                refine nx (zk5 0 1 2 7 8 rfl rfl rfl rfl rfl (zk3 9 10 11 rfl rfl rfl (zk1 98 rfl fn))) ?_
                refine cg_cf rfl ?_
                refine cg_exit ?_
                refine eg_seq_exit ?_
                refine eg_seq_exit ?_
                refine eg_block_exit ?_
                refine eg_block_norm ?_
                refine nx (zk5 0 1 2 7 8 rfl rfl rfl rfl rfl (zk1 9 rfl fn)) ?_
                refine cg_region ?_
                refine zM rfl rfl rfl rfl rfl ?_
                refine za rfl (yv (congrArg nv (show ((t : Nat) : Int) + 1 = ((t + 1 : Nat) : Int) by omega)) (yi_add rfl rfl rfl (by omega) (by omega))) rfl rfl ?_
                refine zA rfl rfl rfl rfl rfl ?_
                refine lg_nil ?_
                exact fun a ha => (show t < (xs.length + 1) ∧ _ from ⟨(by omega), ha.keep (fk rfl (fk rfl (fk rfl (fk rfl (fk rfl (fk rfl fn)))))), h, u, cC, cW, hd, hn, (by omega)⟩)
          · refine za rfl (yb (decide_eq_false c14) (yi_lss rfl rfl rfl)) rfl rfl ?_
            refine lg_nil ?_
            refine nx (zk5 0 1 2 7 8 rfl rfl rfl rfl rfl (zk2 9 63 rfl rfl fn)) ?_
            refine cg_cf rfl ?_
            refine cg_exit ?_
            refine eg_seq_exit ?_
            refine eg_seq_exit ?_
            refine eg_block_exit ?_
            refine nx (zk1 7 rfl fn) ?_
            refine cg_seq ?_
            refine cg_region ?_
            refine zM rfl rfl rfl rfl rfl ?_
            refine zA rfl rfl rfl rfl rfl ?_
            refine lg_nil ?_
            refine nx (zk1 6 rfl fn) ?_
            refine cg_ret ?_
            exact eg_ret_tmp rfl rfl ⟨_, rfl, rfl, u⟩
      · refine lg_callw (want_t (dj := 21) (by rfl) (by kernel_rfl) rfl) (sane_any (h.more (B' := w3.heap.size) (by omega)) (Nat.le_refl _)) (by kernel_rfl) rfl rfl rfl (by decide) ?_
        rintro u32 w32 ⟨e32, hw32⟩
        have zw32 := hw32.size
        obtain rfl : u32 = .bool false := e32.trans (congrArg Value.bool (decide_eq_false c5))
        refine zt 21 rfl (by kernel_rfl) rfl (y_bnot rfl rfl) rfl rfl ?_
        refine za rfl (y_pick false rfl rfl rfl) rfl rfl ?_
        refine zM rfl rfl rfl rfl rfl ?_
        refine zf 26 rfl (by kernel_rfl) rfl rfl rfl ?_
        refine zf 26 rfl (by kernel_rfl) rfl rfl rfl ?_
        refine zf 26 rfl (by kernel_rfl) rfl rfl rfl ?_
        refine za rfl (y_pick true rfl rfl rfl) rfl rfl ?_
        refine lg_nil ?_
        refine nx (zk5 0 1 2 6 7 rfl rfl rfl rfl rfl (zk1 30 rfl fn)) ?_
        refine cg_ct rfl ?_
        refine cg_seq ?_
        refine cg_region ?_
        refine zM rfl rfl rfl rfl rfl ?_
        refine zA rfl rfl rfl rfl rfl ?_
        refine lg_nil ?_
        refine nx (zk5 0 1 2 7 6 rfl rfl rfl rfl rfl fn) ?_
        refine cg_ret ?_
        refine eg_seq_ret ?_
        have u := u.trans (hw1.mono u.size)
        have u := u.trans (hw3.mono u.size)
        have u := u.trans (hw32.mono u.size)
        exact eg_ret_tmp rfl rfl ⟨_, rfl, rfl, u⟩
  · refine lg_callw (want_none (by rfl)) (fewR_any (h.more (B' := w1.heap.size) (by omega)) (Nat.le_refl _)) (by kernel_rfl) rfl rfl rfl (by decide) ?_
    rintro u33 w33 ⟨e33, hw33⟩
    have zw33 := hw33.size
    obtain rfl : u33 = .bool false := e33.trans (congrArg Value.bool (decide_eq_false c2))
    refine za rfl (y_bnot rfl rfl) rfl rfl ?_
    refine zM rfl rfl rfl rfl rfl ?_
    refine zf 16 rfl (by kernel_rfl) rfl rfl rfl ?_
    refine zf 16 rfl (by kernel_rfl) rfl rfl rfl ?_
    refine zf 16 rfl (by kernel_rfl) rfl rfl rfl ?_
    refine za rfl (y_pick true rfl rfl rfl) rfl rfl ?_
    refine zM rfl rfl rfl rfl rfl ?_
    refine zf 21 rfl (by kernel_rfl) rfl rfl rfl ?_
    refine zf 21 rfl (by kernel_rfl) rfl rfl rfl ?_
    refine zf 21 rfl (by kernel_rfl) rfl rfl rfl ?_
    refine za rfl (y_pick true rfl rfl rfl) rfl rfl ?_
    refine zM rfl rfl rfl rfl rfl ?_
    refine zf 26 rfl (by kernel_rfl) rfl rfl rfl ?_
    refine zf 26 rfl (by kernel_rfl) rfl rfl rfl ?_
    refine zf 26 rfl (by kernel_rfl) rfl rfl rfl ?_
    refine za rfl (y_pick true rfl rfl rfl) rfl rfl ?_
    refine lg_nil ?_
    refine nx (zk5 0 1 2 6 7 rfl rfl rfl rfl rfl (zk1 30 rfl fn)) ?_
    refine cg_ct rfl ?_
    refine cg_seq ?_
    refine cg_region ?_
    refine zM rfl rfl rfl rfl rfl ?_
    refine zA rfl rfl rfl rfl rfl ?_
    refine lg_nil ?_
    refine nx (zk5 0 1 2 7 6 rfl rfl rfl rfl rfl fn) ?_
    refine cg_ret ?_
    refine eg_seq_ret ?_
    have u := u.trans (hw1.mono u.size)
    have u := u.trans (hw33.mono u.size)
    exact eg_ret_tmp rfl rfl ⟨_, rfl, rfl, u⟩
end Go.Proofs.YtkcpmpbjjnknhaaGreatDoor
