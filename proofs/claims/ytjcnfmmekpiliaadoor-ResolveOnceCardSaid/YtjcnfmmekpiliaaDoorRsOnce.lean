/-
  Nobody is reached twice.
-/
import Derived.Test.YtjcnfmmekpiliaaDoorRsAwake
namespace Go.Proofs.YtjcnfmmekpiliaaDoor
open Go.ChangeShapes Go.WideShapes Go.ChangeAt Go.RowKit
set_option linter.unusedVariables false

theorem no_unm {n : Nat} {a : List Nd} (h : ∀ i, i < n → (atN a i).inner.unm = []) {L : Nd} (g : a[n]? = some L) (k : ¬ (0 < (L.inner.unm.length : Int))) : ∀ i, i < n + 1 → (atN a i).inner.unm = [] := fun i hi => by
  by_cases q : i < n
  · exact h i q
  · obtain rfl : i = n := by omega
    rw [atN_some g]
    exact List.eq_nil_of_length_eq_zero (by omega)
theorem hi_many {a : List Nd} (h : trIs a) (x : Int) (hz : ∀ i, i < a.length → (atN a i).inner.unm = []) : (hiL a x).length ≤ 8320 := by
  rw [← res_plain hz x]
  exact res_len h x
set_option maxHeartbeats 4000000 in
theorem resolveOnce_any {W : World} {s : SlV} {Ls : List Nd} (h : RwNd W W.heap.size s Ls) (x : Int) (rg : Tb W) : Calls Tryd.prog 7 #[s.v, nv x] W fun e W' => ∃ v, e = .returned v ∧ v = .bool true ∧ Below W.heap.size W W' := by
  refine calls_cg (n := 145) Tryd.func7 rfl Tryd.ntmps7 (by simp) ?_
  show CG _ _ _ [(0, s.v), (1, nv x)] _ _
  have u := Below.refl W.heap.size W
  have q1 := h.len
  have q2 := h.cap
  refine cg_seq ?_
  refine cg_region ?_
  refine zA rfl rfl rfl rfl rfl ?_
  refine lg_nil ?_
  refine nx (zk3 0 1 4 rfl rfl rfl fn) ?_
  refine cg_seq ?_
  refine cg_region ?_
  refine lg_callw (want_none (by rfl)) (awakeR_any _ (rg.up u)) (by kernel_rfl) rfl rfl rfl (by decide) ?_
  rintro _ w1 ⟨rfl, hw1⟩
  have zw1 := hw1.size
  refine zA rfl rfl rfl rfl rfl ?_
  refine lg_nil ?_
  refine nx (zk3 0 1 4 rfl rfl rfl (zk1 5 rfl fn)) ?_
  refine cg_seq ?_
  refine cg_seq ?_
  refine cg_region ?_
  refine zM rfl rfl rfl rfl rfl ?_
  have h := h.below (hw1.mono (by omega))
  by_cases c2 : trFew Ls
  · refine lg_callw (want_none (by rfl)) (fewR_any (h.more (B' := w1.heap.size) (by omega)) (Nat.le_refl _)) (by kernel_rfl) rfl rfl rfl (by decide) ?_
    rintro u3 w3 ⟨e3, hw3⟩
    have zw3 := hw3.size
    obtain rfl : u3 = .bool true := e3.trans (congrArg Value.bool (decide_eq_true c2))
    refine za rfl (y_bnot rfl rfl) rfl rfl ?_
    refine zM rfl rfl rfl rfl rfl ?_
    refine zt 17 rfl (by kernel_rfl) rfl (y_move rfl rfl) rfl rfl ?_
    have h := h.below (hw3.mono (by omega))
    by_cases c4 : trIs Ls
    · have htr := c4
      have htl := trIs_le htr
      have hta := trAs_ok htr
      refine lg_callw (want_t (dj := 17) (by rfl) (by kernel_rfl) rfl) (sane_any (h.more (B' := w3.heap.size) (by omega)) (Nat.le_refl _)) (by kernel_rfl) rfl rfl rfl (by decide) ?_
      rintro u5 w5 ⟨e5, hw5⟩
      have zw5 := hw5.size
      obtain rfl : u5 = .bool true := e5.trans (congrArg Value.bool (decide_eq_true c4))
      refine zt 17 rfl (by kernel_rfl) rfl (y_bnot rfl rfl) rfl rfl ?_
      refine za rfl (y_pick false rfl rfl rfl) rfl rfl ?_
      refine lg_nil ?_
      refine nx (zk5 0 1 4 5 21 rfl rfl rfl rfl rfl fn) ?_
      refine cg_cf rfl ?_
      refine cg_skip ?_
      refine nx (zk3 0 1 4 rfl rfl rfl (zk1 5 rfl fn)) ?_
      refine cg_seq ?_
      refine cg_seq ?_
      refine cg_region ?_
      refine zA rfl rfl rfl rfl rfl ?_
      refine lg_nil ?_
      refine nx (zk5 0 1 4 5 6 rfl rfl rfl rfl rfl fn) ?_
      refine cg_block ?_
      obtain ⟨C, hC⟩ : ∃ q, q = w5.heap.size := ⟨_, rfl⟩
      have h := h.below (hw5.mono (by omega))
      have u := u.trans (hw1.mono u.size)
      have u := u.trans (hw3.mono u.size)
      have u := u.trans (hw5.mono u.size)
      refine cg_loopE (fun t a v => Holds 145 [(0, s.v), (1, nv x), (5, .bool true), (6, nv ((t : Nat) : Int))] a ∧ RwNd v W.heap.size s Ls ∧ Below W.heap.size W v ∧ C ≤ v.heap.size ∧ W.heap.size ≤ C ∧ (∀ i, i < t → (atN Ls i).inner.unm = [])) (Ls.length + 1) (fun a ha => ⟨ha.keep (fk rfl (fk rfl (fk rfl (fk rfl fn)))), h, u, (Nat.le_of_eq hC), (by omega), (fun i hi => absurd hi (by omega))⟩) ?_
      rintro t a v ht ⟨ha, h, u, cC, cW, hz⟩
      refine cg_at ha ?_
      clear ha a
      have zv := u.size
      have q1 := h.len
      have q2 := h.cap
      refine cg_seq ?_
      refine cg_seq ?_
      refine cg_region ?_
      refine zM rfl rfl rfl rfl rfl ?_
      refine zM rfl rfl rfl rfl rfl ?_
      refine za rfl (y_lenM (el := 36) h.len (by kernel_rfl) rfl rfl) rfl rfl ?_
      by_cases c6 : ((t : Nat) : Int) < (Ls.length : Int)
      · refine za rfl (yb (decide_eq_true c6) (yi_lss rfl rfl rfl)) rfl rfl ?_
        refine lg_nil ?_
        refine nx (zk5 0 1 5 6 26 rfl rfl rfl rfl rfl fn) ?_
        refine cg_ct rfl ?_
        refine cg_skip ?_
        refine nx (zk3 0 1 5 rfl rfl rfl (zk1 6 rfl fn)) ?_
        refine cg_seq ?_
        refine cg_block ?_
        refine cg_seq ?_
        refine cg_region ?_
        refine zM rfl rfl rfl rfl rfl ?_
        refine zM rfl rfl rfl rfl rfl ?_
        obtain ⟨eb7, eo7, el7, eL7, eA7, eB7, eg7, eh7, ec7⟩ := h.at (t) (by have := h.len; omega)
        refine za rfl (y_ixR (s := s) (el := 36) (k := 8) (i := t) (iI := ((t : Nat) : Int)) eA7 (by kernel_rfl) (by kernel_rfl) (by omega) (by have := h.len; omega) rfl rfl rfl) rfl rfl ?_
        refine za rfl (y_fld (off := 5) (by kernel_rfl) rfl rfl) rfl rfl ?_
        refine za rfl (y_fld (off := 2) (by kernel_rfl) rfl rfl) rfl rfl ?_
        refine za rfl (y_celld (ec7 7 _ rfl) (by kernel_rfl) rfl rfl) rfl rfl ?_
        refine za rfl (y_lenM (el := 3) eh7.inner.unm.len (by kernel_rfl) rfl rfl) rfl rfl ?_
        by_cases c8 : 0 < (eL7.inner.unm.length : Int)
        · refine za rfl (yb (decide_eq_true c8) (yi_gtr rfl rfl rfl)) rfl rfl ?_
          refine lg_nil ?_
          refine nx (zk5 0 1 5 6 36 rfl rfl rfl rfl rfl fn) ?_
          refine cg_ct rfl ?_
          refine cg_seq ?_
          refine cg_region ?_
          refine zM rfl rfl rfl rfl rfl ?_
          refine zA rfl rfl rfl rfl rfl ?_
          refine lg_nil ?_
          refine nx (zk5 0 1 5 6 4 rfl rfl rfl rfl rfl fn) ?_
          refine cg_ret ?_
          refine eg_block_ret ?_
          refine eg_seq_ret ?_
          refine eg_seq_ret ?_
          refine eg_block_ret ?_
          refine eg_seq_ret ?_
          exact eg_ret_tmp rfl rfl ⟨_, rfl, rfl, u⟩
        · refine za rfl (yb (decide_eq_false c8) (yi_gtr rfl rfl rfl)) rfl rfl ?_
          refine lg_nil ?_
          refine nx (zk5 0 1 5 6 36 rfl rfl rfl rfl rfl fn) ?_
          refine cg_cf rfl ?_
          refine cg_skip ?_
          refine eg_block_norm ?_
          refine nx (zk3 0 1 5 rfl rfl rfl (zk1 6 rfl fn)) ?_
          refine cg_region ?_
          refine zM rfl rfl rfl rfl rfl ?_
          refine za rfl (yv (congrArg nv (show ((t : Nat) : Int) + 1 = ((t + 1 : Nat) : Int) by omega)) (yi_add rfl rfl rfl (by omega) (by omega))) rfl rfl ?_
          refine zA rfl rfl rfl rfl rfl ?_
          refine lg_nil ?_
          exact fun a ha => (show t < (Ls.length + 1) ∧ _ from ⟨(by omega), ha.keep (fk rfl (fk rfl (fk rfl (fk rfl fn)))), h, u, cC, cW, (no_unm hz eg7 c8)⟩)
      · refine za rfl (yb (decide_eq_false c6) (yi_lss rfl rfl rfl)) rfl rfl ?_
        refine lg_nil ?_
        refine nx (zk5 0 1 5 6 26 rfl rfl rfl rfl rfl fn) ?_
        refine cg_cf rfl ?_
        have hz2 : ∀ i, i < Ls.length → (atN Ls i).inner.unm = [] := fun i hi => hz i (by omega)
        have hlen := hi_many htr x hz2
        refine cg_exit ?_
        refine eg_seq_exit ?_
        refine eg_seq_exit ?_
        refine eg_block_exit ?_
        refine nx (zk3 0 1 5 rfl rfl rfl fn) ?_
        refine cg_seq ?_
        refine cg_region ?_
        refine zM rfl rfl rfl rfl rfl ?_
        refine zM rfl rfl rfl rfl rfl ?_
        refine lg_callw (want_none (by rfl)) (resolve_any (h.more (B' := v.heap.size) (by omega)) x (Nat.le_refl _) (rg.up u)) (by kernel_rfl) rfl rfl rfl (by decide) ?_
        rintro _ w9 ⟨s9, rfl, m9, hw9⟩
        have zw9 := hw9.size
        have rl9 := res_len (trAs_is Ls) x
        rw [trAs_ok htr] at m9 rl9
        refine zA rfl rfl rfl rfl rfl ?_
        refine lg_nil ?_
        refine nx (zk3 0 1 5 rfl rfl rfl (zk1 7 rfl fn)) ?_
        refine cg_seq ?_
        refine cg_seq ?_
        refine cg_region ?_
        refine zA rfl rfl rfl rfl rfl ?_
        refine lg_nil ?_
        refine nx (zk5 0 1 5 7 8 rfl rfl rfl rfl rfl fn) ?_
        refine cg_block ?_
        obtain ⟨C2, hC2⟩ : ∃ q, q = w9.heap.size := ⟨_, rfl⟩
        have h := h.below (hw9.mono (by omega))
        have u := u.trans (hw9.mono u.size)
        refine cg_loopE (fun t a v => Holds 145 [(0, s.v), (1, nv x), (5, .bool true), (7, s9.v), (8, nv ((t : Nat) : Int))] a ∧ RwNd v W.heap.size s Ls ∧ Below W.heap.size W v ∧ C2 ≤ v.heap.size ∧ W.heap.size ≤ C2 ∧ SlN v C2 s9 (hiL Ls x) ∧ t ≤ (hiL Ls x).length) ((hiL Ls x).length + 1) (fun a ha => ⟨ha.keep (fk rfl (fk rfl (fk rfl (fk rfl (fk rfl fn))))), h, u, (Nat.le_of_eq hC2), (by omega), ((m9.cast (res_plain hz2 x)).more (by omega)), (Nat.zero_le _)⟩) ?_
        rintro t a v ht ⟨ha, h, u, cC, cW, hl, htl2⟩
        refine cg_at ha ?_
        clear ha a
        have zv := u.size
        have ll := hl.len
        have lb := hl.cap
        have q1 := h.len
        have q2 := h.cap
        refine cg_seq ?_
        refine cg_seq ?_
        refine cg_region ?_
        refine zM rfl rfl rfl rfl rfl ?_
        refine zM rfl rfl rfl rfl rfl ?_
        refine za rfl (y_lenM (el := 3) hl.len (by kernel_rfl) rfl rfl) rfl rfl ?_
        by_cases c10 : ((t : Nat) : Int) < ((hiL Ls x).length : Int)
        · refine za rfl (yb (decide_eq_true c10) (yi_lss rfl rfl rfl)) rfl rfl ?_
          refine lg_nil ?_
          refine nx (zk5 0 1 5 7 8 rfl rfl rfl rfl rfl (zk1 44 rfl fn)) ?_
          refine cg_ct rfl ?_
          refine cg_skip ?_
          refine nx (zk5 0 1 5 7 8 rfl rfl rfl rfl rfl fn) ?_
          refine cg_seq ?_
          refine cg_block ?_
          refine cg_seq ?_
          refine cg_seq ?_
          have hodd := hi_in (getD_in (show t < (hiL Ls x).length by omega))
          have hle := hodd.2.1.le
          refine cg_region ?_
          refine zM rfl rfl rfl rfl rfl ?_
          refine zM rfl rfl rfl rfl rfl ?_
          refine za rfl (y_ixT (i := t) (iI := ((t : Nat) : Int)) hl (by omega) (by first | omega | (simp only [List.length_append, List.length_cons, List.length_nil]; omega)) rfl rfl rfl) rfl rfl ?_
          refine za rfl (y_ldT (i := t) hl (by first | omega | (simp only [List.length_append, List.length_cons, List.length_nil]; omega)) rfl rfl) rfl rfl ?_
          refine za rfl (yb (decide_eq_false (show ¬ (((hiL Ls x).getD t 0) < 0) from (by omega))) (yi_lss rfl rfl rfl)) rfl rfl ?_
          refine zM rfl rfl rfl rfl rfl ?_
          refine zt 52 rfl (by kernel_rfl) rfl (y_move rfl rfl) rfl rfl ?_
          refine zt 52 rfl (by kernel_rfl) rfl (y_move rfl rfl) rfl rfl ?_
          refine zt 52 rfl (by kernel_rfl) rfl (y_ixT (i := t) (iI := ((t : Nat) : Int)) hl (by omega) (by first | omega | (simp only [List.length_append, List.length_cons, List.length_nil]; omega)) rfl rfl rfl) rfl rfl ?_
          refine zt 52 rfl (by kernel_rfl) rfl (y_ldT (i := t) hl (by first | omega | (simp only [List.length_append, List.length_cons, List.length_nil]; omega)) rfl rfl) rfl rfl ?_
          refine zt 52 rfl (by kernel_rfl) rfl (y_move rfl rfl) rfl rfl ?_
          refine zt 52 rfl (by kernel_rfl) rfl (y_lenM (el := 36) h.len (by kernel_rfl) rfl rfl) rfl rfl ?_
          refine zt 52 rfl (by kernel_rfl) rfl (yb (decide_eq_false (show ¬ ((Ls.length : Int) ≤ ((hiL Ls x).getD t 0)) from (by omega))) (yi_geq rfl rfl rfl)) rfl rfl ?_
          refine za rfl (y_pick false rfl rfl rfl) rfl rfl ?_
          refine zM rfl rfl rfl rfl rfl ?_
          refine zt 61 rfl (by kernel_rfl) rfl (y_move rfl rfl) rfl rfl ?_
          refine zt 61 rfl (by kernel_rfl) rfl (y_move rfl rfl) rfl rfl ?_
          refine zt 61 rfl (by kernel_rfl) rfl (y_move rfl rfl) rfl rfl ?_
          refine zt 61 rfl (by kernel_rfl) rfl (y_ixT (i := t) (iI := ((t : Nat) : Int)) hl (by omega) (by first | omega | (simp only [List.length_append, List.length_cons, List.length_nil]; omega)) rfl rfl rfl) rfl rfl ?_
          refine zt 61 rfl (by kernel_rfl) rfl (y_ldT (i := t) hl (by first | omega | (simp only [List.length_append, List.length_cons, List.length_nil]; omega)) rfl rfl) rfl rfl ?_
          obtain ⟨eb11, eo11, el11, eL11, eA11, eB11, eg11, eh11, ec11⟩ := h.at (((hiL Ls x).getD t 0).toNat) (by have := h.len; omega)
          refine zt 61 rfl (by kernel_rfl) rfl (y_ixR (s := s) (el := 36) (k := 8) (i := ((hiL Ls x).getD t 0).toNat) (iI := ((hiL Ls x).getD t 0)) eA11 (by kernel_rfl) (by kernel_rfl) (by omega) (by have := h.len; omega) rfl rfl rfl) rfl rfl ?_
          refine zt 61 rfl (by kernel_rfl) rfl (y_fld (off := 0) (by kernel_rfl) rfl rfl) rfl rfl ?_
          refine zt 61 rfl (by kernel_rfl) rfl (y_celld (ec11 0 _ rfl) (by kernel_rfl) rfl rfl) rfl rfl ?_
          refine zt 61 rfl (by kernel_rfl) rfl (yb (decide_eq_false (show ¬ (eL11.kind = 0) from (by rw [← atN_some eg11]; exact hodd.2.2.1))) (yi_eql rfl rfl rfl)) rfl rfl ?_
          refine za rfl (y_pick false rfl rfl rfl) rfl rfl ?_
          refine zM rfl rfl rfl rfl rfl ?_
          refine zt 72 rfl (by kernel_rfl) rfl (y_move rfl rfl) rfl rfl ?_
          refine zt 72 rfl (by kernel_rfl) rfl (y_move rfl rfl) rfl rfl ?_
          refine zt 72 rfl (by kernel_rfl) rfl (y_ixT (i := t) (iI := ((t : Nat) : Int)) hl (by omega) (by first | omega | (simp only [List.length_append, List.length_cons, List.length_nil]; omega)) rfl rfl rfl) rfl rfl ?_
          refine zt 72 rfl (by kernel_rfl) rfl (y_ldT (i := t) hl (by first | omega | (simp only [List.length_append, List.length_cons, List.length_nil]; omega)) rfl rfl) rfl rfl ?_
          refine zt 72 rfl (by kernel_rfl) rfl (y_move rfl rfl) rfl rfl ?_
          refine zt 72 rfl (by kernel_rfl) rfl (y_move rfl rfl) rfl rfl ?_
          refine zt 72 rfl (by kernel_rfl) rfl (y_lenM (el := 36) h.len (by kernel_rfl) rfl rfl) rfl rfl ?_
          refine lg_callw (want_t (dj := 72) (by rfl) (by kernel_rfl) rfl) (under_any ((hiL Ls x).getD t 0) x (Ls.length : Int) _ (rg.up u)) (by kernel_rfl) rfl rfl rfl (by decide) ?_
          rintro u12 w12 ⟨e12, hw12⟩
          have zw12 := hw12.size
          obtain rfl : u12 = .bool true := e12.trans (congrArg Value.bool (decide_eq_true (show undI ((hiL Ls x).getD t 0) x (Ls.length : Int) from hodd.2.2.2)))
          refine zt 72 rfl (by kernel_rfl) rfl (y_bnot rfl rfl) rfl rfl ?_
          refine za rfl (y_pick false rfl rfl rfl) rfl rfl ?_
          refine lg_nil ?_
          refine nx (zk5 0 1 5 7 8 rfl rfl rfl rfl rfl (zk1 82 rfl fn)) ?_
          refine cg_cf rfl ?_
          refine cg_skip ?_
          refine nx (zk5 0 1 5 7 8 rfl rfl rfl rfl rfl fn) ?_
          refine cg_seq ?_
          refine cg_region ?_
          refine zA rfl rfl rfl rfl rfl ?_
          refine lg_nil ?_
          refine nx (zk5 0 1 5 7 8 rfl rfl rfl rfl rfl (zk1 9 rfl fn)) ?_
          refine cg_block ?_
          have h := h.below (hw12.mono (by omega))
          have u := u.trans (hw12.mono u.size)
          have cC := (show C2 ≤ w12.heap.size by omega)
          have cW := cW
          have hl := hl.below (hw12.mono (by omega))
          refine cg_loopE (fun j a v => Holds 145 [(0, s.v), (1, nv x), (5, .bool true), (7, s9.v), (8, nv ((t : Nat) : Int)), (9, nv ((j : Nat) : Int))] a ∧ RwNd v W.heap.size s Ls ∧ Below W.heap.size W v ∧ C2 ≤ v.heap.size ∧ W.heap.size ≤ C2 ∧ SlN v C2 s9 (hiL Ls x) ∧ j ≤ (hiL Ls x).length) ((hiL Ls x).length + 1) (fun a ha => ⟨ha.keep (fk rfl (fk rfl (fk rfl (fk rfl (fk rfl (fk rfl fn)))))), h, u, cC, cW, hl, (Nat.zero_le _)⟩) ?_
          rintro j a v ht ⟨ha, h, u, cC, cW, hl, hj⟩
          refine cg_at ha ?_
          clear ha a
          have zv := u.size
          have ll := hl.len
          have lb := hl.cap
          have q1 := h.len
          have q2 := h.cap
          refine cg_seq ?_
          refine cg_seq ?_
          refine cg_region ?_
          refine zM rfl rfl rfl rfl rfl ?_
          refine zM rfl rfl rfl rfl rfl ?_
          refine za rfl (y_lenM (el := 3) hl.len (by kernel_rfl) rfl rfl) rfl rfl ?_
          by_cases c13 : ((j : Nat) : Int) < ((hiL Ls x).length : Int)
          · refine za rfl (yb (decide_eq_true c13) (yi_lss rfl rfl rfl)) rfl rfl ?_
            refine lg_nil ?_
            refine nx (zk5 0 1 5 7 8 rfl rfl rfl rfl rfl (zk2 9 86 rfl rfl fn)) ?_
            refine cg_ct rfl ?_
            refine cg_skip ?_
            refine nx (zk5 0 1 5 7 8 rfl rfl rfl rfl rfl (zk1 9 rfl fn)) ?_
            refine cg_seq ?_
            refine cg_block ?_
            refine cg_seq ?_
            refine cg_held (by kernel_rfl) fun W14 eW14 => ?_
            have dW14 := below_drew _ _ eW14
            have zW14 := size_drew _ _ eW14
            clear eW14
            refine zh 0 rfl rfl rfl rfl rfl (by kernel_rfl) (fun _ _ _ h => h) (fun q hq => y_move rfl rfl) ?_
            refine zh 1 rfl rfl rfl rfl rfl (by kernel_rfl) (fun _ _ _ h => h) (fun q hq => y_move rfl rfl) ?_
            by_cases c15 : ((t : Nat) : Int) = ((j : Nat) : Int)
            · refine zh 2 rfl rfl rfl rfl rfl (by kernel_rfl) (fun _ _ _ h => h) (fun q hq => yb (nd_f c15) (yi_neq rfl rfl rfl)) ?_
              refine zh 3 rfl rfl rfl rfl rfl (by kernel_rfl) (fun _ _ _ h => h) (fun q hq => y_move rfl rfl) ?_
              refine hg_skip 4 (by rfl) (want_f (dj := 92) (by rfl) (by kernel_rfl) rfl) rfl (by decide) (by kernel_rfl) (by kernel_rfl) (by kernel_rfl) (fun _ _ _ h => h) (Below.refl _ _) ?_
              refine hg_skip 5 (by rfl) (want_f (dj := 92) (by rfl) (by kernel_rfl) rfl) rfl (by decide) (by kernel_rfl) (by kernel_rfl) (by kernel_rfl) (fun _ _ _ h => h) (Below.refl _ _) ?_
              refine hg_skip 6 (by rfl) (want_f (dj := 92) (by rfl) (by kernel_rfl) rfl) rfl (by decide) (by kernel_rfl) (by kernel_rfl) (by kernel_rfl) (fun _ _ _ h => h) (Below.refl _ _) ?_
              refine hg_skip 7 (by rfl) (want_f (dj := 92) (by rfl) (by kernel_rfl) rfl) rfl (by decide) (by kernel_rfl) (by kernel_rfl) (by kernel_rfl) (fun _ _ _ h => h) (Below.refl _ _) ?_
              refine hg_skip 8 (by rfl) (want_f (dj := 92) (by rfl) (by kernel_rfl) rfl) rfl (by decide) (by kernel_rfl) (by kernel_rfl) (by kernel_rfl) (fun _ _ _ h => h) (Below.refl _ _) ?_
              refine hg_skip 9 (by rfl) (want_f (dj := 92) (by rfl) (by kernel_rfl) rfl) rfl (by decide) (by kernel_rfl) (by kernel_rfl) (by kernel_rfl) (fun _ _ _ h => h) (Below.refl _ _) ?_
              refine hg_skip 10 (by rfl) (want_f (dj := 92) (by rfl) (by kernel_rfl) rfl) rfl (by decide) (by kernel_rfl) (by kernel_rfl) (by kernel_rfl) (fun _ _ _ h => h) (Below.refl _ _) ?_
              refine hg_skip 11 (by rfl) (want_f (dj := 92) (by rfl) (by kernel_rfl) rfl) rfl (by decide) (by kernel_rfl) (by kernel_rfl) (by kernel_rfl) (fun _ _ _ h => h) (Below.refl _ _) ?_
              refine hg_skip 12 (by rfl) (want_f (dj := 92) (by rfl) (by kernel_rfl) rfl) rfl (by decide) (by kernel_rfl) (by kernel_rfl) (by kernel_rfl) (fun _ _ _ h => h) (Below.refl _ _) ?_
              refine hg_skip 13 (by rfl) (want_f (dj := 92) (by rfl) (by kernel_rfl) rfl) rfl (by decide) (by kernel_rfl) (by kernel_rfl) (by kernel_rfl) (fun _ _ _ h => h) (Below.refl _ _) ?_
              refine hg_skip1 14 (Below.refl _ _) (by rfl) (want_f (dj := 92) (by rfl) (by kernel_rfl) rfl) rfl (by decide) (by kernel_rfl) ?_
              refine zh 15 rfl rfl rfl rfl rfl (by kernel_rfl) (fun _ _ _ h => h) (fun q hq => y_pick false rfl rfl rfl) ?_
              refine hg_done (by kernel_rfl) ?_
              refine nx (zk5 0 1 5 7 8 rfl rfl rfl rfl rfl (zk2 9 104 rfl rfl fn)) ?_
              refine cg_cf rfl ?_
              refine cg_skip ?_
              refine eg_block_norm ?_
              refine nx (zk5 0 1 5 7 8 rfl rfl rfl rfl rfl (zk1 9 rfl fn)) ?_
              refine cg_region ?_
              refine zM rfl rfl rfl rfl rfl ?_
              refine za rfl (yv (congrArg nv (show ((j : Nat) : Int) + 1 = ((j + 1 : Nat) : Int) by omega)) (yi_add rfl rfl rfl (by omega) (by omega))) rfl rfl ?_
              refine zA rfl rfl rfl rfl rfl ?_
              refine lg_nil ?_
              have h := h.below (dW14.mono (by omega))
              have u := u.trans (dW14.mono u.size)
              have cC := (show C2 ≤ W14.heap.size by omega)
              have cW := cW
              have hl := hl.below (dW14.mono (by omega))
              exact fun a ha => (show j < ((hiL Ls x).length + 1) ∧ _ from ⟨(by omega), ha.keep (fk rfl (fk rfl (fk rfl (fk rfl (fk rfl (fk rfl fn)))))), h, u, cC, cW, hl, (by omega)⟩)
            · refine zh 2 rfl rfl rfl rfl rfl (by kernel_rfl) (fun _ _ _ h => h) (fun q hq => yb (nd_t c15) (yi_neq rfl rfl rfl)) ?_
              refine zh 3 rfl rfl rfl rfl rfl (by kernel_rfl) (fun _ _ _ h => h) (fun q hq => y_move rfl rfl) ?_
              refine hg_take 4 (by rfl) (want_t (dj := 92) (by rfl) (by kernel_rfl) rfl) (by rfl) rfl (by decide) (by kernel_rfl) (by kernel_rfl) (by kernel_rfl) (fun _ _ _ h => h) (Below.refl _ _) (fun q hq => y_move rfl rfl) ?_
              refine hg_take 5 (by rfl) (want_t (dj := 92) (by rfl) (by kernel_rfl) rfl) (by rfl) rfl (by decide) (by kernel_rfl) (by kernel_rfl) (by kernel_rfl) (fun _ _ _ h => h) (Below.refl _ _) (fun q hq => y_move rfl rfl) ?_
              have hl := hl.below (dW14.mono (by omega))
              refine hg_take 6 (by rfl) (want_t (dj := 92) (by rfl) (by kernel_rfl) rfl) (by rfl) rfl (by decide) (by kernel_rfl) (by kernel_rfl) (by kernel_rfl) (fun _ _ _ h => h) (Below.refl _ _) (fun q hq => y_ixT (i := t) (iI := ((t : Nat) : Int)) (hl.below (hq.mono (by omega))) (by omega) (by first | omega | (simp only [List.length_append, List.length_cons, List.length_nil]; omega)) rfl rfl rfl) ?_
              refine hg_take 7 (by rfl) (want_t (dj := 92) (by rfl) (by kernel_rfl) rfl) (by rfl) rfl (by decide) (by kernel_rfl) (by kernel_rfl) (by kernel_rfl) (fun _ _ _ h => h) (Below.refl _ _) (fun q hq => y_ldT (i := t) (hl.below (hq.mono (by omega))) (by first | omega | (simp only [List.length_append, List.length_cons, List.length_nil]; omega)) rfl rfl) ?_
              refine hg_take 8 (by rfl) (want_t (dj := 92) (by rfl) (by kernel_rfl) rfl) (by rfl) rfl (by decide) (by kernel_rfl) (by kernel_rfl) (by kernel_rfl) (fun _ _ _ h => h) (Below.refl _ _) (fun q hq => y_move rfl rfl) ?_
              refine hg_take 9 (by rfl) (want_t (dj := 92) (by rfl) (by kernel_rfl) rfl) (by rfl) rfl (by decide) (by kernel_rfl) (by kernel_rfl) (by kernel_rfl) (fun _ _ _ h => h) (Below.refl _ _) (fun q hq => y_move rfl rfl) ?_
              refine hg_take 10 (by rfl) (want_t (dj := 92) (by rfl) (by kernel_rfl) rfl) (by rfl) rfl (by decide) (by kernel_rfl) (by kernel_rfl) (by kernel_rfl) (fun _ _ _ h => h) (Below.refl _ _) (fun q hq => y_ixT (i := j) (iI := ((j : Nat) : Int)) (hl.below (hq.mono (by omega))) (by omega) (by first | omega | (simp only [List.length_append, List.length_cons, List.length_nil]; omega)) rfl rfl rfl) ?_
              refine hg_take 11 (by rfl) (want_t (dj := 92) (by rfl) (by kernel_rfl) rfl) (by rfl) rfl (by decide) (by kernel_rfl) (by kernel_rfl) (by kernel_rfl) (fun _ _ _ h => h) (Below.refl _ _) (fun q hq => y_ldT (i := j) (hl.below (hq.mono (by omega))) (by first | omega | (simp only [List.length_append, List.length_cons, List.length_nil]; omega)) rfl rfl) ?_
              refine hg_take 12 (by rfl) (want_t (dj := 92) (by rfl) (by kernel_rfl) rfl) (by rfl) rfl (by decide) (by kernel_rfl) (by kernel_rfl) (by kernel_rfl) (fun _ _ _ h => h) (Below.refl _ _) (fun q hq => y_move rfl rfl) ?_
              have h := h.below (dW14.mono (by omega))
              refine hg_take 13 (by rfl) (want_t (dj := 92) (by rfl) (by kernel_rfl) rfl) (by rfl) rfl (by decide) (by kernel_rfl) (by kernel_rfl) (by kernel_rfl) (fun _ _ _ h => h) (Below.refl _ _) (fun q hq => y_lenM (el := 36) h.len (by kernel_rfl) rfl rfl) ?_
              have u := u.trans (dW14.mono u.size)
              refine hg_one 14 (by rfl) (by kernel_rfl) (want_t (dj := 92) (by rfl) (by kernel_rfl) rfl) ?_
              refine lg_callw (want_t (dj := 92) (by rfl) (by kernel_rfl) rfl) (under_any ((hiL Ls x).getD t 0) ((hiL Ls x).getD j 0) (Ls.length : Int) _ (rg.up u)) (by kernel_rfl) rfl rfl rfl (by decide) ?_
              rintro u16 w16 ⟨e16, hw16⟩
              have zw16 := hw16.size
              obtain rfl : u16 = .bool false := e16.trans (congrArg Value.bool (decide_eq_false (show ¬ (undI ((hiL Ls x).getD t 0) ((hiL Ls x).getD j 0) (Ls.length : Int)) from (hi_once hodd.1 (by omega) (by omega) (by omega)))))
              refine hg_next hw16 ?_
              refine hg_up hw16 ?_
              refine zh 15 rfl rfl rfl rfl rfl (by kernel_rfl) (fun _ _ _ h => h) (fun q hq => y_pick true rfl rfl rfl) ?_
              refine hg_done (by kernel_rfl) ?_
              refine nx (zk5 0 1 5 7 8 rfl rfl rfl rfl rfl (zk2 9 104 rfl rfl fn)) ?_
              refine cg_cf rfl ?_
              refine cg_skip ?_
              refine eg_block_norm ?_
              refine nx (zk5 0 1 5 7 8 rfl rfl rfl rfl rfl (zk1 9 rfl fn)) ?_
              refine cg_region ?_
              refine zM rfl rfl rfl rfl rfl ?_
              refine za rfl (yv (congrArg nv (show ((j : Nat) : Int) + 1 = ((j + 1 : Nat) : Int) by omega)) (yi_add rfl rfl rfl (by omega) (by omega))) rfl rfl ?_
              refine zA rfl rfl rfl rfl rfl ?_
              refine lg_nil ?_
              have h := h.below (hw16.mono (by omega))
              have u := u.trans (hw16.mono u.size)
              have cC := (show C2 ≤ W14.heap.size by omega)
              have cC := (show C2 ≤ w16.heap.size by omega)
              have cW := cW
              have cW := cW
              have hl := hl.below (hw16.mono (by omega))
              exact fun a ha => (show j < ((hiL Ls x).length + 1) ∧ _ from ⟨(by omega), ha.keep (fk rfl (fk rfl (fk rfl (fk rfl (fk rfl (fk rfl fn)))))), h, u, cC, cW, hl, (by omega)⟩)
          · refine za rfl (yb (decide_eq_false c13) (yi_lss rfl rfl rfl)) rfl rfl ?_
            refine lg_nil ?_
            refine nx (zk5 0 1 5 7 8 rfl rfl rfl rfl rfl (zk2 9 86 rfl rfl fn)) ?_
            refine cg_cf rfl ?_
            refine cg_exit ?_
            refine eg_seq_exit ?_
            refine eg_seq_exit ?_
            refine eg_block_exit ?_
            refine eg_block_norm ?_
            refine nx (zk5 0 1 5 7 8 rfl rfl rfl rfl rfl fn) ?_
            refine cg_region ?_
            refine zM rfl rfl rfl rfl rfl ?_
            refine za rfl (yv (congrArg nv (show ((t : Nat) : Int) + 1 = ((t + 1 : Nat) : Int) by omega)) (yi_add rfl rfl rfl (by omega) (by omega))) rfl rfl ?_
            refine zA rfl rfl rfl rfl rfl ?_
            refine lg_nil ?_
            exact fun a ha => (show t < ((hiL Ls x).length + 1) ∧ _ from ⟨(by omega), ha.keep (fk rfl (fk rfl (fk rfl (fk rfl (fk rfl fn))))), h, u, cC, cW, hl, (by omega)⟩)
        · refine za rfl (yb (decide_eq_false c10) (yi_lss rfl rfl rfl)) rfl rfl ?_
          refine lg_nil ?_
          refine nx (zk5 0 1 5 7 8 rfl rfl rfl rfl rfl (zk1 44 rfl fn)) ?_
          refine cg_cf rfl ?_
          refine cg_exit ?_
          refine eg_seq_exit ?_
          refine eg_seq_exit ?_
          refine eg_block_exit ?_
          refine nx (zk3 0 1 5 rfl rfl rfl (zk1 7 rfl fn)) ?_
          refine cg_seq ?_
          refine cg_seq ?_
          refine cg_region ?_
          refine zA rfl rfl rfl rfl rfl ?_
          refine lg_nil ?_
          refine nx (zk5 0 1 5 7 10 rfl rfl rfl rfl rfl fn) ?_
          refine cg_block ?_
          refine cg_loopE (fun t a v => Holds 145 [(0, s.v), (1, nv x), (5, .bool true), (7, s9.v), (10, nv ((2 * t : Nat) : Int))] a ∧ RwNd v W.heap.size s Ls ∧ Below W.heap.size W v ∧ C2 ≤ v.heap.size ∧ W.heap.size ≤ C2 ∧ SlN v C2 s9 (hiL Ls x)) (Ls.length + 1) (fun a ha => ⟨ha.keep (fk rfl (fk rfl (fk rfl (fk rfl (fk rfl fn))))), h, u, cC, cW, hl⟩) ?_
          rintro t a v ht ⟨ha, h, u, cC, cW, hl⟩
          refine cg_at ha ?_
          clear ha a
          have zv := u.size
          have ll := hl.len
          have lb := hl.cap
          have q1 := h.len
          have q2 := h.cap
          refine cg_seq ?_
          refine cg_seq ?_
          refine cg_region ?_
          refine zM rfl rfl rfl rfl rfl ?_
          refine zM rfl rfl rfl rfl rfl ?_
          refine za rfl (y_lenM (el := 36) h.len (by kernel_rfl) rfl rfl) rfl rfl ?_
          by_cases c17 : ((2 * t : Nat) : Int) < (Ls.length : Int)
          · refine za rfl (yb (decide_eq_true c17) (yi_lss rfl rfl rfl)) rfl rfl ?_
            refine lg_nil ?_
            refine nx (zk5 0 1 5 7 10 rfl rfl rfl rfl rfl (zk1 108 rfl fn)) ?_
            refine cg_ct rfl ?_
            refine cg_skip ?_
            refine nx (zk5 0 1 5 7 10 rfl rfl rfl rfl rfl fn) ?_
            refine cg_seq ?_
            refine cg_block ?_
            refine cg_seq ?_
            refine cg_region ?_
            refine zA rfl rfl rfl rfl rfl ?_
            refine lg_nil ?_
            refine nx (zk5 0 1 5 7 10 rfl rfl rfl rfl rfl (zk1 11 rfl fn)) ?_
            refine cg_seq ?_
            refine cg_seq ?_
            refine cg_region ?_
            refine zA rfl rfl rfl rfl rfl ?_
            refine lg_nil ?_
            refine nx (zk5 0 1 5 7 10 rfl rfl rfl rfl rfl (zk2 11 12 rfl rfl fn)) ?_
            refine cg_block ?_
            refine cg_loopE (fun j a v => ∃ (M : Nat), Holds 145 [(0, s.v), (1, nv x), (5, .bool true), (7, s9.v), (10, nv ((2 * t : Nat) : Int)), (11, nv ((M : Nat) : Int)), (12, nv ((j : Nat) : Int))] a ∧ RwNd v W.heap.size s Ls ∧ Below W.heap.size W v ∧ C2 ≤ v.heap.size ∧ W.heap.size ≤ C2 ∧ SlN v C2 s9 (hiL Ls x) ∧ M = cntU ((2 * t : Nat) : Int) (Ls.length : Int) ((hiL Ls x).take j) ∧ j ≤ (hiL Ls x).length) ((hiL Ls x).length + 1) (fun a ha => ⟨0, ha.keep (fk rfl (fk rfl (fk rfl (fk rfl (fk rfl (fk rfl (fk rfl fn))))))), h, u, cC, cW, hl, rfl, (Nat.zero_le _)⟩) ?_
            rintro j a v ht ⟨M, ha, h, u, cC, cW, hl, hM, hj⟩
            refine cg_at ha ?_
            clear ha a
            have zv := u.size
            have ll := hl.len
            have lb := hl.cap
            have q1 := h.len
            have q2 := h.cap
            have ml : M ≤ (hiL Ls x).length := by rw [hM]; exact Nat.le_trans (cntU_le _ _ _) (by rw [List.length_take]; omega)
            refine cg_seq ?_
            refine cg_seq ?_
            refine cg_region ?_
            refine zM rfl rfl rfl rfl rfl ?_
            refine zM rfl rfl rfl rfl rfl ?_
            refine za rfl (y_lenM (el := 3) hl.len (by kernel_rfl) rfl rfl) rfl rfl ?_
            by_cases c18 : ((j : Nat) : Int) < ((hiL Ls x).length : Int)
            · refine za rfl (yb (decide_eq_true c18) (yi_lss rfl rfl rfl)) rfl rfl ?_
              refine lg_nil ?_
              refine nx (zk5 0 1 5 7 10 rfl rfl rfl rfl rfl (zk3 11 12 114 rfl rfl rfl fn)) ?_
              refine cg_ct rfl ?_
              refine cg_skip ?_
              refine nx (zk5 0 1 5 7 10 rfl rfl rfl rfl rfl (zk2 11 12 rfl rfl fn)) ?_
              refine cg_seq ?_
              refine cg_block ?_
              refine cg_seq ?_
              refine cg_region ?_
              refine zM rfl rfl rfl rfl rfl ?_
              refine zM rfl rfl rfl rfl rfl ?_
              refine zM rfl rfl rfl rfl rfl ?_
              refine za rfl (y_ixT (i := j) (iI := ((j : Nat) : Int)) hl (by omega) (by first | omega | (simp only [List.length_append, List.length_cons, List.length_nil]; omega)) rfl rfl rfl) rfl rfl ?_
              refine za rfl (y_ldT (i := j) hl (by first | omega | (simp only [List.length_append, List.length_cons, List.length_nil]; omega)) rfl rfl) rfl rfl ?_
              refine zM rfl rfl rfl rfl rfl ?_
              refine za rfl (y_lenM (el := 36) h.len (by kernel_rfl) rfl rfl) rfl rfl ?_
              by_cases c19 : undI ((2 * t : Nat) : Int) ((hiL Ls x).getD j 0) (Ls.length : Int)
              · refine lg_callw (want_none (by rfl)) (under_any ((2 * t : Nat) : Int) ((hiL Ls x).getD j 0) (Ls.length : Int) _ (rg.up u)) (by kernel_rfl) rfl rfl rfl (by decide) ?_
                rintro u20 w20 ⟨e20, hw20⟩
                have zw20 := hw20.size
                obtain rfl : u20 = .bool true := e20.trans (congrArg Value.bool (decide_eq_true c19))
                refine lg_nil ?_
                refine nx (zk5 0 1 5 7 10 rfl rfl rfl rfl rfl (zk3 11 12 124 rfl rfl rfl fn)) ?_
                refine cg_ct rfl ?_
                refine cg_region ?_
                refine zM rfl rfl rfl rfl rfl ?_
                refine za rfl (yv (congrArg nv (show ((M : Nat) : Int) + 1 = ((M + 1 : Nat) : Int) by omega)) (yi_add rfl rfl rfl (by omega) (by omega))) rfl rfl ?_
                refine zA rfl rfl rfl rfl rfl ?_
                refine lg_nil ?_
                refine eg_block_norm ?_
                refine nx (zk5 0 1 5 7 10 rfl rfl rfl rfl rfl (zk2 12 11 rfl rfl fn)) ?_
                refine cg_region ?_
                refine zM rfl rfl rfl rfl rfl ?_
                refine za rfl (yv (congrArg nv (show ((j : Nat) : Int) + 1 = ((j + 1 : Nat) : Int) by omega)) (yi_add rfl rfl rfl (by omega) (by omega))) rfl rfl ?_
                refine zA rfl rfl rfl rfl rfl ?_
                refine lg_nil ?_
                have h := h.below (hw20.mono (by omega))
                have u := u.trans (hw20.mono u.size)
                have cC := (show C2 ≤ w20.heap.size by omega)
                have cW := cW
                have hl := hl.below (hw20.mono (by omega))
                exact fun a ha => (show j < ((hiL Ls x).length + 1) ∧ _ from ⟨(by omega), (M + 1), ha.keep (fk rfl (fk rfl (fk rfl (fk rfl (fk rfl (fk rfl (fk rfl fn))))))), h, u, cC, cW, hl, (by rw [hM, take_succ_getD _ _ (by omega), cntU_snoc, if_pos c19]), (by omega)⟩)
              · refine lg_callw (want_none (by rfl)) (under_any ((2 * t : Nat) : Int) ((hiL Ls x).getD j 0) (Ls.length : Int) _ (rg.up u)) (by kernel_rfl) rfl rfl rfl (by decide) ?_
                rintro u21 w21 ⟨e21, hw21⟩
                have zw21 := hw21.size
                obtain rfl : u21 = .bool false := e21.trans (congrArg Value.bool (decide_eq_false c19))
                refine lg_nil ?_
                refine nx (zk5 0 1 5 7 10 rfl rfl rfl rfl rfl (zk3 11 12 124 rfl rfl rfl fn)) ?_
                refine cg_cf rfl ?_
                refine cg_skip ?_
                refine eg_block_norm ?_
                refine nx (zk5 0 1 5 7 10 rfl rfl rfl rfl rfl (zk2 11 12 rfl rfl fn)) ?_
                refine cg_region ?_
                refine zM rfl rfl rfl rfl rfl ?_
                refine za rfl (yv (congrArg nv (show ((j : Nat) : Int) + 1 = ((j + 1 : Nat) : Int) by omega)) (yi_add rfl rfl rfl (by omega) (by omega))) rfl rfl ?_
                refine zA rfl rfl rfl rfl rfl ?_
                refine lg_nil ?_
                have h := h.below (hw21.mono (by omega))
                have u := u.trans (hw21.mono u.size)
                have cC := (show C2 ≤ w21.heap.size by omega)
                have cW := cW
                have hl := hl.below (hw21.mono (by omega))
                exact fun a ha => (show j < ((hiL Ls x).length + 1) ∧ _ from ⟨(by omega), M, ha.keep (fk rfl (fk rfl (fk rfl (fk rfl (fk rfl (fk rfl (fk rfl fn))))))), h, u, cC, cW, hl, (by rw [hM, take_succ_getD _ _ (by omega), cntU_snoc, if_neg c19, Nat.add_zero]), (by omega)⟩)
            · refine za rfl (yb (decide_eq_false c18) (yi_lss rfl rfl rfl)) rfl rfl ?_
              refine lg_nil ?_
              refine nx (zk5 0 1 5 7 10 rfl rfl rfl rfl rfl (zk3 11 12 114 rfl rfl rfl fn)) ?_
              refine cg_cf rfl ?_
              obtain rfl : j = (hiL Ls x).length := by omega
              rw [List.take_length] at hM
              refine cg_exit ?_
              refine eg_seq_exit ?_
              refine eg_seq_exit ?_
              refine eg_block_exit ?_
              refine nx (zk5 0 1 5 7 10 rfl rfl rfl rfl rfl (zk1 11 rfl fn)) ?_
              refine cg_seq ?_
              refine cg_region ?_
              refine zM rfl rfl rfl rfl rfl ?_
              refine zM rfl rfl rfl rfl rfl ?_
              obtain ⟨eb22, eo22, el22, eL22, eA22, eB22, eg22, eh22, ec22⟩ := h.at ((2 * t)) (by have := h.len; omega)
              refine za rfl (y_ixR (s := s) (el := 36) (k := 8) (i := (2 * t)) (iI := ((2 * t : Nat) : Int)) eA22 (by kernel_rfl) (by kernel_rfl) (by omega) (by have := h.len; omega) rfl rfl rfl) rfl rfl ?_
              refine za rfl (y_fld (off := 0) (by kernel_rfl) rfl rfl) rfl rfl ?_
              refine za rfl (y_celld (ec22 0 _ rfl) (by kernel_rfl) rfl rfl) rfl rfl ?_
              by_cases c23 : eL22.kind = 0
              · refine za rfl (yb (nd_f c23) (yi_neq rfl rfl rfl)) rfl rfl ?_
                refine zM rfl rfl rfl rfl rfl ?_
                refine zf 133 rfl (by kernel_rfl) rfl rfl rfl ?_
                refine zf 133 rfl (by kernel_rfl) rfl rfl rfl ?_
                refine zf 133 rfl (by kernel_rfl) rfl rfl rfl ?_
                refine zf 133 rfl (by kernel_rfl) rfl rfl rfl ?_
                refine zf 133 rfl (by kernel_rfl) rfl rfl rfl ?_
                refine za rfl (y_pick false rfl rfl rfl) rfl rfl ?_
                refine zM rfl rfl rfl rfl rfl ?_
                refine zf 140 rfl (by kernel_rfl) rfl rfl rfl ?_
                refine zf 140 rfl (by kernel_rfl) rfl rfl rfl ?_
                refine za rfl (y_pick false rfl rfl rfl) rfl rfl ?_
                refine lg_nil ?_
                refine nx (zk5 0 1 5 7 10 rfl rfl rfl rfl rfl (zk1 143 rfl fn)) ?_
                refine cg_cf rfl ?_
                refine cg_skip ?_
                refine eg_block_norm ?_
                refine nx (zk5 0 1 5 7 10 rfl rfl rfl rfl rfl fn) ?_
                refine cg_region ?_
                refine zM rfl rfl rfl rfl rfl ?_
                refine za rfl (yv (congrArg nv (show ((2 * t : Nat) : Int) + 2 = ((2 * (t + 1) : Nat) : Int) by omega)) (yi_add rfl rfl rfl (by omega) (by omega))) rfl rfl ?_
                refine zA rfl rfl rfl rfl rfl ?_
                refine lg_nil ?_
                exact fun a ha => (show t < (Ls.length + 1) ∧ _ from ⟨(by omega), ha.keep (fk rfl (fk rfl (fk rfl (fk rfl (fk rfl fn))))), h, u, cC, cW, hl⟩)
              · refine za rfl (yb (nd_t c23) (yi_neq rfl rfl rfl)) rfl rfl ?_
                refine zM rfl rfl rfl rfl rfl ?_
                refine zt 133 rfl (by kernel_rfl) rfl (y_move rfl rfl) rfl rfl ?_
                refine zt 133 rfl (by kernel_rfl) rfl (y_move rfl rfl) rfl rfl ?_
                refine zt 133 rfl (by kernel_rfl) rfl (y_move rfl rfl) rfl rfl ?_
                refine zt 133 rfl (by kernel_rfl) rfl (y_lenM (el := 36) h.len (by kernel_rfl) rfl rfl) rfl rfl ?_
                by_cases c24 : undI ((2 * t : Nat) : Int) x (Ls.length : Int)
                · refine lg_callw (want_t (dj := 133) (by rfl) (by kernel_rfl) rfl) (under_any ((2 * t : Nat) : Int) x (Ls.length : Int) _ (rg.up u)) (by kernel_rfl) rfl rfl rfl (by decide) ?_
                  rintro u25 w25 ⟨e25, hw25⟩
                  have zw25 := hw25.size
                  obtain rfl : u25 = .bool true := e25.trans (congrArg Value.bool (decide_eq_true c24))
                  refine za rfl (y_pick true rfl rfl rfl) rfl rfl ?_
                  refine zM rfl rfl rfl rfl rfl ?_
                  refine zt 140 rfl (by kernel_rfl) rfl (y_move rfl rfl) rfl rfl ?_
                  refine zt 140 rfl (by kernel_rfl) rfl (yb (nd_f (show ((M : Nat) : Int) = 1 from (by rw [hM]; exact congrArg (fun (q : Nat) => (q : Int)) (hi_cnt c24.2.1 (show (atN Ls (((2 * t : Nat) : Int)).toNat).kind ≠ 0 by rw [Int.toNat_natCast, atN_some eg22]; exact c23) c24)))) (yi_neq rfl rfl rfl)) rfl rfl ?_
                  refine za rfl (y_pick true rfl rfl rfl) rfl rfl ?_
                  refine lg_nil ?_
                  refine nx (zk5 0 1 5 7 10 rfl rfl rfl rfl rfl (zk1 143 rfl fn)) ?_
                  refine cg_cf rfl ?_
                  refine cg_skip ?_
                  refine eg_block_norm ?_
                  refine nx (zk5 0 1 5 7 10 rfl rfl rfl rfl rfl fn) ?_
                  refine cg_region ?_
                  refine zM rfl rfl rfl rfl rfl ?_
                  refine za rfl (yv (congrArg nv (show ((2 * t : Nat) : Int) + 2 = ((2 * (t + 1) : Nat) : Int) by omega)) (yi_add rfl rfl rfl (by omega) (by omega))) rfl rfl ?_
                  refine zA rfl rfl rfl rfl rfl ?_
                  refine lg_nil ?_
                  have h := h.below (hw25.mono (by omega))
                  have u := u.trans (hw25.mono u.size)
                  have cC := (show C2 ≤ w25.heap.size by omega)
                  have cW := cW
                  have hl := hl.below (hw25.mono (by omega))
                  exact fun a ha => (show t < (Ls.length + 1) ∧ _ from ⟨(by omega), ha.keep (fk rfl (fk rfl (fk rfl (fk rfl (fk rfl fn))))), h, u, cC, cW, hl⟩)
                · refine lg_callw (want_t (dj := 133) (by rfl) (by kernel_rfl) rfl) (under_any ((2 * t : Nat) : Int) x (Ls.length : Int) _ (rg.up u)) (by kernel_rfl) rfl rfl rfl (by decide) ?_
                  rintro u26 w26 ⟨e26, hw26⟩
                  have zw26 := hw26.size
                  obtain rfl : u26 = .bool false := e26.trans (congrArg Value.bool (decide_eq_false c24))
                  refine za rfl (y_pick true rfl rfl rfl) rfl rfl ?_
                  refine zM rfl rfl rfl rfl rfl ?_
                  refine zf 140 rfl (by kernel_rfl) rfl rfl rfl ?_
                  refine zf 140 rfl (by kernel_rfl) rfl rfl rfl ?_
                  refine za rfl (y_pick false rfl rfl rfl) rfl rfl ?_
                  refine lg_nil ?_
                  refine nx (zk5 0 1 5 7 10 rfl rfl rfl rfl rfl (zk1 143 rfl fn)) ?_
                  refine cg_cf rfl ?_
                  refine cg_skip ?_
                  refine eg_block_norm ?_
                  refine nx (zk5 0 1 5 7 10 rfl rfl rfl rfl rfl fn) ?_
                  refine cg_region ?_
                  refine zM rfl rfl rfl rfl rfl ?_
                  refine za rfl (yv (congrArg nv (show ((2 * t : Nat) : Int) + 2 = ((2 * (t + 1) : Nat) : Int) by omega)) (yi_add rfl rfl rfl (by omega) (by omega))) rfl rfl ?_
                  refine zA rfl rfl rfl rfl rfl ?_
                  refine lg_nil ?_
                  have h := h.below (hw26.mono (by omega))
                  have u := u.trans (hw26.mono u.size)
                  have cC := (show C2 ≤ w26.heap.size by omega)
                  have cW := cW
                  have hl := hl.below (hw26.mono (by omega))
                  exact fun a ha => (show t < (Ls.length + 1) ∧ _ from ⟨(by omega), ha.keep (fk rfl (fk rfl (fk rfl (fk rfl (fk rfl fn))))), h, u, cC, cW, hl⟩)
          · refine za rfl (yb (decide_eq_false c17) (yi_lss rfl rfl rfl)) rfl rfl ?_
            refine lg_nil ?_
            refine nx (zk5 0 1 5 7 10 rfl rfl rfl rfl rfl (zk1 108 rfl fn)) ?_
            refine cg_cf rfl ?_
            refine cg_exit ?_
            refine eg_seq_exit ?_
            refine eg_seq_exit ?_
            refine eg_block_exit ?_
            refine nx (zk1 5 rfl fn) ?_
            refine cg_seq ?_
            refine cg_region ?_
            refine zM rfl rfl rfl rfl rfl ?_
            refine zA rfl rfl rfl rfl rfl ?_
            refine lg_nil ?_
            refine nx (zk1 4 rfl fn) ?_
            refine cg_ret ?_
            exact eg_ret_tmp rfl rfl ⟨_, rfl, rfl, u⟩
    · refine lg_callw (want_t (dj := 17) (by rfl) (by kernel_rfl) rfl) (sane_any (h.more (B' := w3.heap.size) (by omega)) (Nat.le_refl _)) (by kernel_rfl) rfl rfl rfl (by decide) ?_
      rintro u27 w27 ⟨e27, hw27⟩
      have zw27 := hw27.size
      obtain rfl : u27 = .bool false := e27.trans (congrArg Value.bool (decide_eq_false c4))
      refine zt 17 rfl (by kernel_rfl) rfl (y_bnot rfl rfl) rfl rfl ?_
      refine za rfl (y_pick false rfl rfl rfl) rfl rfl ?_
      refine lg_nil ?_
      refine nx (zk5 0 1 4 5 21 rfl rfl rfl rfl rfl fn) ?_
      refine cg_ct rfl ?_
      refine cg_seq ?_
      refine cg_region ?_
      refine zM rfl rfl rfl rfl rfl ?_
      refine zA rfl rfl rfl rfl rfl ?_
      refine lg_nil ?_
      refine nx (zk3 0 1 5 rfl rfl rfl (zk1 4 rfl fn)) ?_
      refine cg_ret ?_
      refine eg_seq_ret ?_
      have u := u.trans (hw1.mono u.size)
      have u := u.trans (hw3.mono u.size)
      have u := u.trans (hw27.mono u.size)
      exact eg_ret_tmp rfl rfl ⟨_, rfl, rfl, u⟩
  · refine lg_callw (want_none (by rfl)) (fewR_any (h.more (B' := w1.heap.size) (by omega)) (Nat.le_refl _)) (by kernel_rfl) rfl rfl rfl (by decide) ?_
    rintro u28 w28 ⟨e28, hw28⟩
    have zw28 := hw28.size
    obtain rfl : u28 = .bool false := e28.trans (congrArg Value.bool (decide_eq_false c2))
    refine za rfl (y_bnot rfl rfl) rfl rfl ?_
    refine zM rfl rfl rfl rfl rfl ?_
    refine zf 17 rfl (by kernel_rfl) rfl rfl rfl ?_
    refine zf 17 rfl (by kernel_rfl) rfl rfl rfl ?_
    refine zf 17 rfl (by kernel_rfl) rfl rfl rfl ?_
    refine za rfl (y_pick true rfl rfl rfl) rfl rfl ?_
    refine lg_nil ?_
    refine nx (zk5 0 1 4 5 21 rfl rfl rfl rfl rfl fn) ?_
    refine cg_ct rfl ?_
    refine cg_seq ?_
    refine cg_region ?_
    refine zM rfl rfl rfl rfl rfl ?_
    refine zA rfl rfl rfl rfl rfl ?_
    refine lg_nil ?_
    refine nx (zk3 0 1 5 rfl rfl rfl (zk1 4 rfl fn)) ?_
    refine cg_ret ?_
    refine eg_seq_ret ?_
    have u := u.trans (hw1.mono u.size)
    have u := u.trans (hw28.mono u.size)
    exact eg_ret_tmp rfl rfl ⟨_, rfl, rfl, u⟩
end Go.Proofs.YtjcnfmmekpiliaaDoor
