/-
  Of any row, number and leaves the answers are the document's.
-/
import Derived.Test.YtkcpmpbjjnknhaaGreatDoorHsAwake
namespace Go.Proofs.YtkcpmpbjjnknhaaGreatDoor
open Go.ChangeShapes Go.WideShapes Go.ChangeAt Go.RowKit
set_option linter.unusedVariables false

set_option maxRecDepth 20000
set_option maxHeartbeats 4000000 in
theorem hashIs_any {W : World} {s : SlV} {Ls : List Nd} (h : RwNd W W.heap.size s Ls) (x : Int) {r : SlV} {xs : List Int} (hn : SlN W W.heap.size r xs) (rg : Tt W) : Calls Tryz.prog 3 #[s.v, nv x, r.v] W fun e W' => ∃ v, e = .returned v ∧ v = .bool true ∧ Below W.heap.size W W' := by
  refine calls_cg (n := 64) Tryz.func3 rfl Tryz.ntmps3 (by simp) ?_
  show CG _ _ _ [(0, s.v), (1, nv x), (2, r.v)] _ _
  have u := Below.refl W.heap.size W
  have q1 := h.len
  have q2 := h.cap
  have q3 := hn.len
  have q4 := hn.cap
  refine cg_seq ?_
  refine cg_region ?_
  refine zA rfl rfl rfl rfl rfl ?_
  refine lg_nil ?_
  refine nx (zk3 0 1 2 rfl rfl rfl (zk1 6 rfl fn)) ?_
  refine cg_seq ?_
  refine cg_region ?_
  refine lg_callw (want_none (by rfl)) (awakeH_any _ (Tt.up u rg)) (by kernel_rfl) rfl rfl rfl (by decide) ?_
  rintro _ w1 ⟨rfl, hw1⟩
  have zw1 := hw1.size
  refine zA rfl rfl rfl rfl rfl ?_
  refine lg_nil ?_
  refine nx (zk5 0 1 2 6 7 rfl rfl rfl rfl rfl fn) ?_
  refine cg_seq ?_
  refine cg_seq ?_
  refine cg_region ?_
  refine zM rfl rfl rfl rfl rfl ?_
  have h := h.below (hw1.mono (by omega))
  by_cases c2 : trFew Ls
  · refine lg_callw (want_none (by rfl)) (fewR_any (h.more (B' := w1.heap.size) (by omega)) (Nat.le_refl _)) (by kernel_rfl) rfl rfl rfl (by decide) ?_
    rintro u3 w3 ⟨e3, hw3⟩
    have zw3 := hw3.size
    obtain rfl : u3 = .bool true := e3.trans (congrArg Value.bool (decide_eq_true c2))
    refine za rfl (y_bnot rfl rfl) rfl rfl ?_
    refine zM rfl rfl rfl rfl rfl ?_
    refine zt 12 rfl (by kernel_rfl) rfl (y_move rfl rfl) rfl rfl ?_
    have h := h.below (hw3.mono (by omega))
    refine zt 12 rfl (by kernel_rfl) rfl (y_lenM (el := 40) h.len (by kernel_rfl) rfl rfl) rfl rfl ?_
    by_cases c4 : 40 < (Ls.length : Int)
    · refine zt 12 rfl (by kernel_rfl) rfl (yb (decide_eq_true c4) (yi_gtr rfl rfl rfl)) rfl rfl ?_
      refine za rfl (y_pick false rfl rfl rfl) rfl rfl ?_
      refine zM rfl rfl rfl rfl rfl ?_
      refine zf 17 rfl (by kernel_rfl) rfl rfl rfl ?_
      refine zf 17 rfl (by kernel_rfl) rfl rfl rfl ?_
      refine zf 17 rfl (by kernel_rfl) rfl rfl rfl ?_
      refine za rfl (y_pick true rfl rfl rfl) rfl rfl ?_
      refine lg_nil ?_
      refine nx (zk5 0 1 2 6 7 rfl rfl rfl rfl rfl (zk1 21 rfl fn)) ?_
      refine cg_ct rfl ?_
      refine cg_seq ?_
      refine cg_region ?_
      refine zM rfl rfl rfl rfl rfl ?_
      refine zA rfl rfl rfl rfl rfl ?_
      refine lg_nil ?_
      refine nx (zk5 0 1 2 7 6 rfl rfl rfl rfl rfl fn) ?_
      refine cg_ret ?_
      refine eg_seq_ret ?_
      have u := u.trans (hw1.mono u.size)
      have u := u.trans (hw3.mono u.size)
      exact eg_ret_tmp rfl rfl ⟨_, rfl, rfl, u⟩
    · refine zt 12 rfl (by kernel_rfl) rfl (yb (decide_eq_false c4) (yi_gtr rfl rfl rfl)) rfl rfl ?_
      refine za rfl (y_pick false rfl rfl rfl) rfl rfl ?_
      refine zM rfl rfl rfl rfl rfl ?_
      refine zt 17 rfl (by kernel_rfl) rfl (y_move rfl rfl) rfl rfl ?_
      have hn := hn.below (hw1.mono (by omega))
      have hn := hn.below (hw3.mono (by omega))
      refine zt 17 rfl (by kernel_rfl) rfl (y_lenM (el := 3) hn.len (by kernel_rfl) rfl rfl) rfl rfl ?_
      by_cases c5 : 100 < (xs.length : Int)
      · refine zt 17 rfl (by kernel_rfl) rfl (yb (decide_eq_true c5) (yi_gtr rfl rfl rfl)) rfl rfl ?_
        refine za rfl (y_pick false rfl rfl rfl) rfl rfl ?_
        refine lg_nil ?_
        refine nx (zk5 0 1 2 6 7 rfl rfl rfl rfl rfl (zk1 21 rfl fn)) ?_
        refine cg_ct rfl ?_
        refine cg_seq ?_
        refine cg_region ?_
        refine zM rfl rfl rfl rfl rfl ?_
        refine zA rfl rfl rfl rfl rfl ?_
        refine lg_nil ?_
        refine nx (zk5 0 1 2 7 6 rfl rfl rfl rfl rfl fn) ?_
        refine cg_ret ?_
        refine eg_seq_ret ?_
        have u := u.trans (hw1.mono u.size)
        have u := u.trans (hw3.mono u.size)
        exact eg_ret_tmp rfl rfl ⟨_, rfl, rfl, u⟩
      · refine zt 17 rfl (by kernel_rfl) rfl (yb (decide_eq_false c5) (yi_gtr rfl rfl rfl)) rfl rfl ?_
        refine za rfl (y_pick false rfl rfl rfl) rfl rfl ?_
        refine lg_nil ?_
        refine nx (zk5 0 1 2 6 7 rfl rfl rfl rfl rfl (zk1 21 rfl fn)) ?_
        refine cg_cf rfl ?_
        refine cg_skip ?_
        refine nx (zk5 0 1 2 6 7 rfl rfl rfl rfl rfl fn) ?_
        refine cg_seq ?_
        refine cg_held (by kernel_rfl) fun W6 eW6 => ?_
        have dW6 := below_drew _ _ eW6
        have zW6 := size_drew _ _ eW6
        clear eW6
        refine zh 0 rfl rfl rfl rfl rfl (by kernel_rfl) (fun _ _ _ h => h) (fun q hq => y_move rfl rfl) ?_
        refine zh 1 rfl rfl rfl rfl rfl (by kernel_rfl) (fun _ _ _ h => h) (fun q hq => y_move rfl rfl) ?_
        refine hg_take 2 (by rfl) (want_t (dj := 24) (by rfl) (by kernel_rfl) rfl) (by rfl) rfl (by decide) (by kernel_rfl) (by kernel_rfl) (by kernel_rfl) (fun _ _ _ h => h) (Below.refl _ _) (fun q hq => y_move rfl rfl) ?_
        refine hg_take 3 (by rfl) (want_t (dj := 24) (by rfl) (by kernel_rfl) rfl) (by rfl) rfl (by decide) (by kernel_rfl) (by kernel_rfl) (by kernel_rfl) (fun _ _ _ h => h) (Below.refl _ _) (fun q hq => y_move rfl rfl) ?_
        refine hg_take 6 (by rfl) (want_t (dj := 24) (by rfl) (by kernel_rfl) rfl) (by rfl) rfl (by decide) (by kernel_rfl) (by kernel_rfl) (by kernel_rfl) (fun _ _ _ h => h) (Below.refl _ _) (fun q hq => y_move rfl rfl) ?_
        refine hg_take 7 (by rfl) (want_t (dj := 24) (by rfl) (by kernel_rfl) rfl) (by rfl) rfl (by decide) (by kernel_rfl) (by kernel_rfl) (by kernel_rfl) (fun _ _ _ h => h) (Below.refl _ _) (fun q hq => y_move rfl rfl) ?_
        have h := h.below (dW6.mono (by omega))
        have u := u.trans (hw1.mono u.size)
        have u := u.trans (hw3.mono u.size)
        have u := u.trans (dW6.mono u.size)
        refine hg_one 4 (by rfl) (by kernel_rfl) (want_t (dj := 24) (by rfl) (by kernel_rfl) rfl) ?_
        refine lg_callw (want_t (dj := 24) (by rfl) (by kernel_rfl) rfl) (of_any (h.more (B' := W6.heap.size) (by omega)) x (Nat.le_refl _) (Tt.up u rg)) (by kernel_rfl) rfl rfl rfl (by decide) ?_
        rintro _ w7 ⟨r7, rfl, m7, hw7⟩
        have zw7 := hw7.size
        have ol7 := ofH_len (trAs Ls) x
        refine hg_next hw7 ?_
        refine hg_up hw7 ?_
        have by8 : Bytes (ofH (trAs Ls) x) := m7.bytes
        refine hg_take 5 (by rfl) (want_t (dj := 24) (by rfl) (by kernel_rfl) rfl) (by rfl) rfl (by decide) (by kernel_rfl) (by kernel_rfl) (by kernel_rfl) (fun _ _ _ h => h) (Below.refl _ _) (fun q hq => y_strS (m7.below (hq.mono (by omega))) rfl rfl) ?_
        have h := h.below (hw7.mono (by omega))
        have u := u.trans (hw7.mono u.size)
        refine hg_one 8 (by rfl) (by kernel_rfl) (want_t (dj := 24) (by rfl) (by kernel_rfl) rfl) ?_
        refine lg_callw (want_t (dj := 24) (by rfl) (by kernel_rfl) rfl) (rof_any (h.more (B' := w7.heap.size) (by omega)) x (Nat.le_refl _) (Tt.up u rg).b) (by kernel_rfl) rfl rfl rfl (by decide) ?_
        rintro _ w9 ⟨r9, rfl, m9, hw9⟩
        have zw9 := hw9.size
        have ol9 := ofH_len (trAs Ls) x
        refine hg_next hw9 ?_
        refine hg_up hw9 ?_
        have by10 : Bytes (ofH (trAs Ls) x) := m9.bytes
        refine hg_take 9 (by rfl) (want_t (dj := 24) (by rfl) (by kernel_rfl) rfl) (by rfl) rfl (by decide) (by kernel_rfl) (by kernel_rfl) (by kernel_rfl) (fun _ _ _ h => h) (Below.refl _ _) (fun q hq => y_strS (m9.below (hq.mono (by omega))) rfl rfl) ?_
        refine hg_take 10 (by rfl) (want_t (dj := 24) (by rfl) (by kernel_rfl) rfl) (by rfl) rfl (by decide) (by kernel_rfl) (by kernel_rfl) (by kernel_rfl) (fun _ _ _ h => h) (Below.refl _ _) (fun q hq => yb (decide_eq_true rfl) (y_seqS (xs := (ofH (trAs Ls) x)) (ys := (ofH (trAs Ls) x)) by8 by10 rfl rfl rfl)) ?_
        refine zh 11 rfl rfl rfl rfl rfl (by kernel_rfl) (fun _ _ _ h => h) (fun q hq => y_pick true rfl rfl rfl) ?_
        refine zh 12 rfl rfl rfl rfl rfl (by kernel_rfl) (fun _ _ _ h => h) (fun q hq => y_move rfl rfl) ?_
        refine hg_take 13 (by rfl) (want_t (dj := 35) (by rfl) (by kernel_rfl) rfl) (by rfl) rfl (by decide) (by kernel_rfl) (by kernel_rfl) (by kernel_rfl) (fun _ _ _ h => h) (Below.refl _ _) (fun q hq => y_move rfl rfl) ?_
        refine hg_take 15 (by rfl) (want_t (dj := 35) (by rfl) (by kernel_rfl) rfl) (by rfl) rfl (by decide) (by kernel_rfl) (by kernel_rfl) (by kernel_rfl) (fun _ _ _ h => h) (Below.refl _ _) (fun q hq => y_move rfl rfl) ?_
        have h := h.below (hw9.mono (by omega))
        have u := u.trans (hw9.mono u.size)
        refine hg_one 14 (by rfl) (by kernel_rfl) (want_t (dj := 35) (by rfl) (by kernel_rfl) rfl) ?_
        refine lg_callw (want_t (dj := 35) (by rfl) (by kernel_rfl) rfl) (all_any (h.more (B' := w9.heap.size) (by omega)) (Nat.le_refl _) (Tt.up u rg)) (by kernel_rfl) rfl rfl rfl (by decide) ?_
        rintro _ w11 ⟨r11, rfl, m11, hw11⟩
        have zw11 := hw11.size
        refine hg_next hw11 ?_
        refine hg_up hw11 ?_
        have h := h.below (hw11.mono (by omega))
        have u := u.trans (hw11.mono u.size)
        refine hg_one 16 (by rfl) (by kernel_rfl) (want_t (dj := 35) (by rfl) (by kernel_rfl) rfl) ?_
        refine lg_callw (want_t (dj := 35) (by rfl) (by kernel_rfl) rfl) (rall_any (h.more (B' := w11.heap.size) (by omega)) (Nat.le_refl _) (Tt.up u rg).b) (by kernel_rfl) rfl rfl rfl (by decide) ?_
        rintro _ w12 ⟨r12, rfl, m12, hw12⟩
        have zw12 := hw12.size
        refine hg_next hw12 ?_
        refine hg_up hw12 ?_
        have m11 := m11.below (hw12.mono (by omega))
        refine hg_one 17 (by rfl) (by kernel_rfl) (want_t (dj := 35) (by rfl) (by kernel_rfl) rfl) ?_
        refine lg_callw (want_t (dj := 35) (by rfl) (by kernel_rfl) rfl) (sameO_any (m11.more (B' := w12.heap.size) (by omega)) (m12.more (B' := w12.heap.size) (by omega)) (Nat.le_refl _)) (by kernel_rfl) rfl rfl rfl (by decide) ?_
        rintro u13 w13 ⟨e13, hw13⟩
        have zw13 := hw13.size
        obtain rfl : u13 = .bool true := e13.trans (congrArg Value.bool (decide_eq_true rfl))
        refine hg_next hw13 ?_
        refine hg_up hw13 ?_
        refine zh 18 rfl rfl rfl rfl rfl (by kernel_rfl) (fun _ _ _ h => h) (fun q hq => y_pick true rfl rfl rfl) ?_
        refine zh 19 rfl rfl rfl rfl rfl (by kernel_rfl) (fun _ _ _ h => h) (fun q hq => y_move rfl rfl) ?_
        refine hg_take 20 (by rfl) (want_t (dj := 42) (by rfl) (by kernel_rfl) rfl) (by rfl) rfl (by decide) (by kernel_rfl) (by kernel_rfl) (by kernel_rfl) (fun _ _ _ h => h) (Below.refl _ _) (fun q hq => y_move rfl rfl) ?_
        refine hg_take 21 (by rfl) (want_t (dj := 42) (by rfl) (by kernel_rfl) rfl) (by rfl) rfl (by decide) (by kernel_rfl) (by kernel_rfl) (by kernel_rfl) (fun _ _ _ h => h) (Below.refl _ _) (fun q hq => y_move rfl rfl) ?_
        refine hg_take 23 (by rfl) (want_t (dj := 42) (by rfl) (by kernel_rfl) rfl) (by rfl) rfl (by decide) (by kernel_rfl) (by kernel_rfl) (by kernel_rfl) (fun _ _ _ h => h) (Below.refl _ _) (fun q hq => y_move rfl rfl) ?_
        refine hg_take 24 (by rfl) (want_t (dj := 42) (by rfl) (by kernel_rfl) rfl) (by rfl) rfl (by decide) (by kernel_rfl) (by kernel_rfl) (by kernel_rfl) (fun _ _ _ h => h) (Below.refl _ _) (fun q hq => y_move rfl rfl) ?_
        have h := h.below (hw12.mono (by omega))
        have h := h.below (hw13.mono (by omega))
        have hn := hn.below (dW6.mono (by omega))
        have hn := hn.below (hw7.mono (by omega))
        have hn := hn.below (hw9.mono (by omega))
        have hn := hn.below (hw11.mono (by omega))
        have hn := hn.below (hw12.mono (by omega))
        have hn := hn.below (hw13.mono (by omega))
        refine hg_one 22 (by rfl) (by kernel_rfl) (want_t (dj := 42) (by rfl) (by kernel_rfl) rfl) ?_
        refine lg_callw (want_t (dj := 42) (by rfl) (by kernel_rfl) rfl) (drop_any (h.more (B' := w13.heap.size) (by omega)) (hn.more (B' := w13.heap.size) (by omega)) (Nat.le_refl _) (by first | omega | (simp only [List.length_append, List.length_cons, List.length_nil, numOct_length, flagOct_length]; omega))) (by kernel_rfl) rfl rfl rfl (by decide) ?_
        rintro _ w14 ⟨s14, rfl, m14, hw14⟩
        have zw14 := hw14.size
        refine hg_next hw14 ?_
        refine hg_up hw14 ?_
        have h := h.below (hw14.mono (by omega))
        have hn := hn.below (hw14.mono (by omega))
        refine hg_one 25 (by rfl) (by kernel_rfl) (want_t (dj := 42) (by rfl) (by kernel_rfl) rfl) ?_
        refine lg_callw (want_t (dj := 42) (by rfl) (by kernel_rfl) rfl) (rdrop_any (h.more (B' := w14.heap.size) (by omega)) (hn.more (B' := w14.heap.size) (by omega)) (Nat.le_refl _) (by first | omega | (simp only [List.length_append, List.length_cons, List.length_nil, numOct_length, flagOct_length]; omega))) (by kernel_rfl) rfl rfl rfl (by decide) ?_
        rintro _ w15 ⟨s15, rfl, m15, hw15⟩
        have zw15 := hw15.size
        refine hg_next hw15 ?_
        refine hg_up hw15 ?_
        have m14 := m14.below (hw15.mono (by omega))
        refine hg_one 26 (by rfl) (by kernel_rfl) (want_t (dj := 42) (by rfl) (by kernel_rfl) rfl) ?_
        refine lg_callw (want_t (dj := 42) (by rfl) (by kernel_rfl) rfl) (sameR_any (m14.more (B' := w15.heap.size) (by omega)) (m15.more (B' := w15.heap.size) (by omega)) (Nat.le_refl _)) (by kernel_rfl) rfl rfl rfl (by decide) ?_
        rintro u16 w16 ⟨e16, hw16⟩
        have zw16 := hw16.size
        obtain rfl : u16 = .bool true := e16.trans (congrArg Value.bool (decide_eq_true (tr_same _)))
        refine hg_next hw16 ?_
        refine hg_up hw16 ?_
        refine zh 27 rfl rfl rfl rfl rfl (by kernel_rfl) (fun _ _ _ h => h) (fun q hq => y_pick true rfl rfl rfl) ?_
        refine zh 28 rfl rfl rfl rfl rfl (by kernel_rfl) (fun _ _ _ h => h) (fun q hq => y_move rfl rfl) ?_
        refine hg_take 29 (by rfl) (want_t (dj := 51) (by rfl) (by kernel_rfl) rfl) (by rfl) rfl (by decide) (by kernel_rfl) (by kernel_rfl) (by kernel_rfl) (fun _ _ _ h => h) (Below.refl _ _) (fun q hq => y_move rfl rfl) ?_
        refine hg_take 30 (by rfl) (want_t (dj := 51) (by rfl) (by kernel_rfl) rfl) (by rfl) rfl (by decide) (by kernel_rfl) (by kernel_rfl) (by kernel_rfl) (fun _ _ _ h => h) (Below.refl _ _) (fun q hq => y_move rfl rfl) ?_
        refine hg_take 31 (by rfl) (want_t (dj := 51) (by rfl) (by kernel_rfl) rfl) (by rfl) rfl (by decide) (by kernel_rfl) (by kernel_rfl) (by kernel_rfl) (fun _ _ _ h => h) (Below.refl _ _) (fun q hq => y_move rfl rfl) ?_
        refine hg_take 34 (by rfl) (want_t (dj := 51) (by rfl) (by kernel_rfl) rfl) (by rfl) rfl (by decide) (by kernel_rfl) (by kernel_rfl) (by kernel_rfl) (fun _ _ _ h => h) (Below.refl _ _) (fun q hq => y_move rfl rfl) ?_
        refine hg_take 35 (by rfl) (want_t (dj := 51) (by rfl) (by kernel_rfl) rfl) (by rfl) rfl (by decide) (by kernel_rfl) (by kernel_rfl) (by kernel_rfl) (fun _ _ _ h => h) (Below.refl _ _) (fun q hq => y_move rfl rfl) ?_
        refine hg_take 36 (by rfl) (want_t (dj := 51) (by rfl) (by kernel_rfl) rfl) (by rfl) rfl (by decide) (by kernel_rfl) (by kernel_rfl) (by kernel_rfl) (fun _ _ _ h => h) (Below.refl _ _) (fun q hq => y_move rfl rfl) ?_
        have h := h.below (hw15.mono (by omega))
        have h := h.below (hw16.mono (by omega))
        have hn := hn.below (hw15.mono (by omega))
        have hn := hn.below (hw16.mono (by omega))
        have u := u.trans (hw12.mono u.size)
        have u := u.trans (hw13.mono u.size)
        have u := u.trans (hw14.mono u.size)
        have u := u.trans (hw15.mono u.size)
        have u := u.trans (hw16.mono u.size)
        refine hg_one 32 (by rfl) (by kernel_rfl) (want_t (dj := 51) (by rfl) (by kernel_rfl) rfl) ?_
        refine lg_callw (want_t (dj := 51) (by rfl) (by kernel_rfl) rfl) (without_any (h.more (B' := w16.heap.size) (by omega)) x (hn.more (B' := w16.heap.size) (by omega)) (Nat.le_refl _) (by first | omega | (simp only [List.length_append, List.length_cons, List.length_nil, numOct_length, flagOct_length]; omega)) (Tt.up u rg)) (by kernel_rfl) rfl rfl rfl (by decide) ?_
        rintro _ w17 ⟨r17, rfl, m17, hw17⟩
        have zw17 := hw17.size
        have ol17 := ofH_len (dropL xs (trAs Ls)) x
        refine hg_next hw17 ?_
        refine hg_up hw17 ?_
        have by18 : Bytes (ofH (dropL xs (trAs Ls)) x) := m17.bytes
        refine hg_take 33 (by rfl) (want_t (dj := 51) (by rfl) (by kernel_rfl) rfl) (by rfl) rfl (by decide) (by kernel_rfl) (by kernel_rfl) (by kernel_rfl) (fun _ _ _ h => h) (Below.refl _ _) (fun q hq => y_strS (m17.below (hq.mono (by omega))) rfl rfl) ?_
        have h := h.below (hw17.mono (by omega))
        have hn := hn.below (hw17.mono (by omega))
        have u := u.trans (hw17.mono u.size)
        refine hg_one 37 (by rfl) (by kernel_rfl) (want_t (dj := 51) (by rfl) (by kernel_rfl) rfl) ?_
        refine lg_callw (want_t (dj := 51) (by rfl) (by kernel_rfl) rfl) (rwithout_any (h.more (B' := w17.heap.size) (by omega)) x (hn.more (B' := w17.heap.size) (by omega)) (Nat.le_refl _) (by first | omega | (simp only [List.length_append, List.length_cons, List.length_nil, numOct_length, flagOct_length]; omega)) (Tt.up u rg).b) (by kernel_rfl) rfl rfl rfl (by decide) ?_
        rintro _ w19 ⟨r19, rfl, m19, hw19⟩
        have zw19 := hw19.size
        have ol19 := ofH_len (dropL xs (trAs Ls)) x
        refine hg_next hw19 ?_
        refine hg_up hw19 ?_
        have by20 : Bytes (ofH (dropL xs (trAs Ls)) x) := m19.bytes
        refine hg_take 38 (by rfl) (want_t (dj := 51) (by rfl) (by kernel_rfl) rfl) (by rfl) rfl (by decide) (by kernel_rfl) (by kernel_rfl) (by kernel_rfl) (fun _ _ _ h => h) (Below.refl _ _) (fun q hq => y_strS (m19.below (hq.mono (by omega))) rfl rfl) ?_
        refine hg_take 39 (by rfl) (want_t (dj := 51) (by rfl) (by kernel_rfl) rfl) (by rfl) rfl (by decide) (by kernel_rfl) (by kernel_rfl) (by kernel_rfl) (fun _ _ _ h => h) (Below.refl _ _) (fun q hq => yb (decide_eq_true rfl) (y_seqS (xs := (ofH (dropL xs (trAs Ls)) x)) (ys := (ofH (dropL xs (trAs Ls)) x)) by18 by20 rfl rfl rfl)) ?_
        refine zh 40 rfl rfl rfl rfl rfl (by kernel_rfl) (fun _ _ _ h => h) (fun q hq => y_pick true rfl rfl rfl) ?_
        refine zh 41 rfl rfl rfl rfl rfl (by kernel_rfl) (fun _ _ _ h => h) (fun q hq => y_assign rfl rfl) ?_
        refine hg_done (by kernel_rfl) ?_
        refine nx (zk1 6 rfl fn) ?_
        refine cg_ret ?_
        have u := u.trans (hw19.mono u.size)
        exact eg_ret_tmp rfl rfl ⟨_, rfl, rfl, u⟩
  · refine lg_callw (want_none (by rfl)) (fewR_any (h.more (B' := w1.heap.size) (by omega)) (Nat.le_refl _)) (by kernel_rfl) rfl rfl rfl (by decide) ?_
    rintro u21 w21 ⟨e21, hw21⟩
    have zw21 := hw21.size
    obtain rfl : u21 = .bool false := e21.trans (congrArg Value.bool (decide_eq_false c2))
    refine za rfl (y_bnot rfl rfl) rfl rfl ?_
    refine zM rfl rfl rfl rfl rfl ?_
    refine zf 12 rfl (by kernel_rfl) rfl rfl rfl ?_
    refine zf 12 rfl (by kernel_rfl) rfl rfl rfl ?_
    refine zf 12 rfl (by kernel_rfl) rfl rfl rfl ?_
    refine za rfl (y_pick true rfl rfl rfl) rfl rfl ?_
    refine zM rfl rfl rfl rfl rfl ?_
    refine zf 17 rfl (by kernel_rfl) rfl rfl rfl ?_
    refine zf 17 rfl (by kernel_rfl) rfl rfl rfl ?_
    refine zf 17 rfl (by kernel_rfl) rfl rfl rfl ?_
    refine za rfl (y_pick true rfl rfl rfl) rfl rfl ?_
    refine lg_nil ?_
    refine nx (zk5 0 1 2 6 7 rfl rfl rfl rfl rfl (zk1 21 rfl fn)) ?_
    refine cg_ct rfl ?_
    refine cg_seq ?_
    refine cg_region ?_
    refine zM rfl rfl rfl rfl rfl ?_
    refine zA rfl rfl rfl rfl rfl ?_
    refine lg_nil ?_
    refine nx (zk5 0 1 2 7 6 rfl rfl rfl rfl rfl fn) ?_
    refine cg_ret ?_
    refine eg_seq_ret ?_
    have u := u.trans (hw1.mono u.size)
    have u := u.trans (hw21.mono u.size)
    exact eg_ret_tmp rfl rfl ⟨_, rfl, rfl, u⟩
end Go.Proofs.YtkcpmpbjjnknhaaGreatDoor
