/-
  A blank node is both its children.
-/
import Derived.Test.YtjcnfmmekpiliaaDoorRsAwake
namespace Go.Proofs.YtjcnfmmekpiliaaDoor
open Go.ChangeShapes Go.WideShapes Go.ChangeAt Go.RowKit
set_option linter.unusedVariables false

theorem res_made (n : Nat) (x : Int) : resL (trAs (List.replicate n Nd.zero)) x = [] := by
  by_cases h : trIs (List.replicate n Nd.zero)
  · rw [trAs_ok h]
    exact res_blank n x
  · rw [trAs_no h]
    exact res_nil x
set_option maxHeartbeats 4000000 in
theorem resolveBoth_any {W : World} {s : SlV} {Ls : List Nd} (h : RwNd W W.heap.size s Ls) (x : Int) (rg : Tb W) : Calls Tryd.prog 5 #[s.v, nv x] W fun e W' => ∃ v, e = .returned v ∧ v = .bool true ∧ Below W.heap.size W W' := by
  refine calls_cg (n := 69) Tryd.func5 rfl Tryd.ntmps5 (by simp) ?_
  show CG _ _ _ [(0, s.v), (1, nv x)] _ _
  have u := Below.refl W.heap.size W
  have q1 := h.len
  have q2 := h.cap
  refine cg_seq ?_
  refine cg_region ?_
  refine zA rfl rfl rfl rfl rfl ?_
  refine lg_nil ?_
  refine nx (zk3 0 1 4 rfl rfl rfl fn) ?_
  refine cg_seq ?_
  refine cg_region ?_
  refine lg_callw (want_none (by rfl)) (awakeR_any _ (rg.up u)) (by kernel_rfl) rfl rfl rfl (by decide) ?_
  rintro _ w1 ⟨rfl, hw1⟩
  have zw1 := hw1.size
  refine zA rfl rfl rfl rfl rfl ?_
  refine lg_nil ?_
  refine nx (zk3 0 1 4 rfl rfl rfl (zk1 5 rfl fn)) ?_
  refine cg_seq ?_
  refine cg_seq ?_
  refine cg_region ?_
  refine zM rfl rfl rfl rfl rfl ?_
  have h := h.below (hw1.mono (by omega))
  by_cases c2 : trFew Ls
  · refine lg_callw (want_none (by rfl)) (fewR_any (h.more (B' := w1.heap.size) (by omega)) (Nat.le_refl _)) (by kernel_rfl) rfl rfl rfl (by decide) ?_
    rintro u3 w3 ⟨e3, hw3⟩
    have zw3 := hw3.size
    obtain rfl : u3 = .bool true := e3.trans (congrArg Value.bool (decide_eq_true c2))
    refine za rfl (y_bnot rfl rfl) rfl rfl ?_
    refine zM rfl rfl rfl rfl rfl ?_
    refine zt 12 rfl (by kernel_rfl) rfl (y_move rfl rfl) rfl rfl ?_
    have h := h.below (hw3.mono (by omega))
    by_cases c4 : trIs Ls
    · have htr := c4
      have htl := trIs_le htr
      have hta := trAs_ok htr
      refine lg_callw (want_t (dj := 12) (by rfl) (by kernel_rfl) rfl) (sane_any (h.more (B' := w3.heap.size) (by omega)) (Nat.le_refl _)) (by kernel_rfl) rfl rfl rfl (by decide) ?_
      rintro u5 w5 ⟨e5, hw5⟩
      have zw5 := hw5.size
      obtain rfl : u5 = .bool true := e5.trans (congrArg Value.bool (decide_eq_true c4))
      refine zt 12 rfl (by kernel_rfl) rfl (y_bnot rfl rfl) rfl rfl ?_
      refine za rfl (y_pick false rfl rfl rfl) rfl rfl ?_
      refine zM rfl rfl rfl rfl rfl ?_
      refine zt 17 rfl (by kernel_rfl) rfl (y_move rfl rfl) rfl rfl ?_
      refine zt 17 rfl (by kernel_rfl) rfl (y_move rfl rfl) rfl rfl ?_
      have h := h.below (hw5.mono (by omega))
      refine zt 17 rfl (by kernel_rfl) rfl (y_lenM (el := 36) h.len (by kernel_rfl) rfl rfl) rfl rfl ?_
      by_cases c6 : isN x (Ls.length : Int)
      · have hx := c6
        have lex := hx.le
        refine zt 17 rfl (by kernel_rfl) rfl (yb (decide_eq_true c6) (y_call (isL_any x (Ls.length : Int) _) (by kernel_rfl) rfl rfl)) rfl rfl ?_
        refine zt 17 rfl (by kernel_rfl) rfl (y_bnot rfl rfl) rfl rfl ?_
        refine za rfl (y_pick false rfl rfl rfl) rfl rfl ?_
        refine lg_nil ?_
        refine nx (zk5 0 1 4 5 23 rfl rfl rfl rfl rfl fn) ?_
        refine cg_cf rfl ?_
        refine cg_skip ?_
        refine nx (zk3 0 1 4 rfl rfl rfl (zk1 5 rfl fn)) ?_
        refine cg_seq ?_
        refine cg_region ?_
        refine zM rfl rfl rfl rfl rfl ?_
        refine za rfl (y_lenM (el := 36) h.len (by kernel_rfl) rfl rfl) rfl rfl ?_
        obtain ⟨bs8, hbs8⟩ : ∃ q, q = w5.heap.size := ⟨_, rfl⟩
        refine lg_mkR (K := (Ls.length : Int)) Ls.length (want_none (by rfl)) (by omega) (by omega) rfl rfl rfl rfl (by decide) fun s7 w7 f7 g7 l7 => ?_
        rw [← hbs8] at g7
        have z7 := l7.size
        refine zM rfl rfl rfl rfl rfl ?_
        have u := u.trans (hw1.mono u.size)
        have u := u.trans (hw3.mono u.size)
        have u := u.trans (hw5.mono u.size)
        have u := u.trans (l7.mono u.size)
        refine lg_callw (want_none (by rfl)) (resolve_any ((g7.rowS (by omega)).more (B' := w7.heap.size) (by omega)) x (Nat.le_refl _) (rg.up u)) (by kernel_rfl) rfl rfl rfl (by decide) ?_
        rintro _ w9 ⟨s9, rfl, m9, hw9⟩
        have zw9 := hw9.size
        have rl9 := res_len (trAs_is (List.replicate Ls.length Nd.zero)) x
        refine zA rfl rfl rfl rfl rfl ?_
        refine lg_nil ?_
        refine nx (zk5 0 1 4 5 6 rfl rfl rfl rfl rfl fn) ?_
        refine cg_seq ?_
        refine cg_seq ?_
        refine cg_region ?_
        refine zM rfl rfl rfl rfl rfl ?_
        refine za rfl (y_lenM (el := 3) m9.len (by kernel_rfl) rfl rfl) rfl rfl ?_
        refine za rfl (yb (decide_eq_false (show ¬ (0 < ((resL (trAs (List.replicate Ls.length Nd.zero)) x).length : Int)) from (by rw [res_made]; decide))) (yi_gtr rfl rfl rfl)) rfl rfl ?_
        refine lg_nil ?_
        refine nx (zk5 0 1 4 5 32 rfl rfl rfl rfl rfl fn) ?_
        refine cg_cf rfl ?_
        refine cg_skip ?_
        refine nx (zk3 0 1 4 rfl rfl rfl (zk1 5 rfl fn)) ?_
        refine cg_seq ?_
        refine cg_seq ?_
        refine cg_region ?_
        refine zM rfl rfl rfl rfl rfl ?_
        refine zM rfl rfl rfl rfl rfl ?_
        have h := h.below (l7.mono (by omega))
        have h := h.below (hw9.mono (by omega))
        obtain ⟨eb10, eo10, el10, eL10, eA10, eB10, eg10, eh10, ec10⟩ := h.at (x.toNat) (by have := h.len; omega)
        refine za rfl (y_ixR (s := s) (el := 36) (k := 8) (i := x.toNat) (iI := x) eA10 (by kernel_rfl) (by kernel_rfl) (by omega) (by have := h.len; omega) rfl rfl rfl) rfl rfl ?_
        refine za rfl (y_fld (off := 0) (by kernel_rfl) rfl rfl) rfl rfl ?_
        refine za rfl (y_celld (ec10 0 _ rfl) (by kernel_rfl) rfl rfl) rfl rfl ?_
        by_cases c11 : eL10.kind = 0
        · refine za rfl (yb (nd_f c11) (yi_neq rfl rfl rfl)) rfl rfl ?_
          refine zM rfl rfl rfl rfl rfl ?_
          refine zt 39 rfl (by kernel_rfl) rfl (y_move rfl rfl) rfl rfl ?_
          refine zt 39 rfl (by kernel_rfl) rfl (yi_rem rfl rfl rfl (by omega) (by omega)) rfl rfl ?_
          by_cases c12 : (x % 2) = 0
          · refine zt 39 rfl (by kernel_rfl) rfl (yb (decide_eq_true c12) (yi_eql rfl rfl rfl)) rfl rfl ?_
            refine za rfl (y_pick false rfl rfl rfl) rfl rfl ?_
            refine lg_nil ?_
            refine nx (zk5 0 1 4 5 43 rfl rfl rfl rfl rfl fn) ?_
            refine cg_ct rfl ?_
            refine cg_seq ?_
            refine cg_region ?_
            refine zM rfl rfl rfl rfl rfl ?_
            refine zA rfl rfl rfl rfl rfl ?_
            refine lg_nil ?_
            refine nx (zk3 0 1 5 rfl rfl rfl (zk1 4 rfl fn)) ?_
            refine cg_ret ?_
            refine eg_seq_ret ?_
            have u := u.trans (hw9.mono u.size)
            exact eg_ret_tmp rfl rfl ⟨_, rfl, rfl, u⟩
          · refine zt 39 rfl (by kernel_rfl) rfl (yb (decide_eq_false c12) (yi_eql rfl rfl rfl)) rfl rfl ?_
            refine za rfl (y_pick false rfl rfl rfl) rfl rfl ?_
            refine lg_nil ?_
            refine nx (zk5 0 1 4 5 43 rfl rfl rfl rfl rfl fn) ?_
            refine cg_cf rfl ?_
            refine cg_skip ?_
            refine nx (zk3 0 1 4 rfl rfl rfl (zk1 5 rfl fn)) ?_
            refine cg_seq ?_
            refine cg_region ?_
            obtain ⟨bs14, hbs14⟩ : ∃ q, q = w9.heap.size := ⟨_, rfl⟩
            refine lg_bs0T (want_none (by rfl)) rfl rfl (by decide) fun v13 w13 g13 l13 => ?_
            rw [← hbs14] at g13
            have z13 := l13.size
            refine zM rfl rfl rfl rfl rfl ?_
            refine zM rfl rfl rfl rfl rfl ?_
            refine zM rfl rfl rfl rfl rfl ?_
            have h := h.below (l13.mono (by omega))
            refine za rfl (y_lenM (el := 36) h.len (by kernel_rfl) rfl rfl) rfl rfl ?_
            have u := u.trans (hw9.mono u.size)
            have u := u.trans (l13.mono u.size)
            refine za rfl (y_call (left_any x (Ls.length : Int) _ (rg.up u)) (by kernel_rfl) rfl rfl) rfl rfl ?_
            refine lg_callw (want_none (by rfl)) (resolve_any (h.more (B' := w13.heap.size) (by omega)) (leftI x (Ls.length : Int)) (Nat.le_refl _) (rg.up u)) (by kernel_rfl) rfl rfl rfl (by decide) ?_
            rintro _ w15 ⟨s15, rfl, m15, hw15⟩
            have zw15 := hw15.size
            have rl15 := res_len (trAs_is Ls) (leftI x (Ls.length : Int))
            rw [trAs_ok htr] at m15 rl15
            have g13 := own_below g13 hw15
            refine lg_appT g13 m15 (by first | omega | (simp only [List.length_nil]; omega)) (by omega) (want_none (by rfl)) rfl rfl rfl rfl rfl (by decide) fun r16 w16 m16 g16 l16 z16 => ?_
            simp only [List.nil_append] at m16 g16
            refine zA rfl rfl rfl rfl rfl ?_
            refine lg_nil ?_
            refine nx (zk5 0 1 4 5 7 rfl rfl rfl rfl rfl fn) ?_
            refine cg_seq ?_
            refine cg_region ?_
            refine zM rfl rfl rfl rfl rfl ?_
            refine zM rfl rfl rfl rfl rfl ?_
            refine zM rfl rfl rfl rfl rfl ?_
            refine zM rfl rfl rfl rfl rfl ?_
            have h := h.below (hw15.mono (by omega))
            have h := h.below (l16.mono (by omega))
            refine za rfl (y_lenM (el := 36) h.len (by kernel_rfl) rfl rfl) rfl rfl ?_
            have u := u.trans (hw15.mono u.size)
            have u := u.trans (l16.mono (by omega))
            refine za rfl (y_call (right_any x (Ls.length : Int) _ (rg.up u)) (by kernel_rfl) rfl rfl) rfl rfl ?_
            refine lg_callw (want_none (by rfl)) (resolve_any (h.more (B' := w16.heap.size) (by omega)) (rightI x (Ls.length : Int)) (Nat.le_refl _) (rg.up u)) (by kernel_rfl) rfl rfl rfl (by decide) ?_
            rintro _ w17 ⟨s17, rfl, m17, hw17⟩
            have zw17 := hw17.size
            have rl17 := res_len (trAs_is Ls) (rightI x (Ls.length : Int))
            rw [trAs_ok htr] at m17 rl17
            have g16 := own_below g16 hw17
            refine lg_appT g16 m17 (by first | omega | (simp only [List.length_append, List.length_cons, List.length_nil]; omega)) (by omega) (want_none (by rfl)) rfl rfl rfl rfl rfl (by decide) fun r18 w18 m18 g18 l18 z18 => ?_
            refine zA rfl rfl rfl rfl rfl ?_
            refine lg_nil ?_
            refine nx (zk5 0 1 4 5 7 rfl rfl rfl rfl rfl fn) ?_
            refine cg_seq ?_
            refine cg_region ?_
            refine zM rfl rfl rfl rfl rfl ?_
            refine zM rfl rfl rfl rfl rfl ?_
            refine zt 62 rfl (by kernel_rfl) rfl (y_move rfl rfl) rfl rfl ?_
            refine zt 62 rfl (by kernel_rfl) rfl (y_move rfl rfl) rfl rfl ?_
            have h := h.below (hw17.mono (by omega))
            have h := h.below (l18.mono (by omega))
            have u := u.trans (hw17.mono u.size)
            have u := u.trans (l18.mono (by omega))
            refine lg_callw (want_t (dj := 62) (by rfl) (by kernel_rfl) rfl) (resolve_any (h.more (B' := w18.heap.size) (by omega)) x (Nat.le_refl _) (rg.up u)) (by kernel_rfl) rfl rfl rfl (by decide) ?_
            rintro _ w19 ⟨s19, rfl, m19, hw19⟩
            have zw19 := hw19.size
            have rl19 := res_len (trAs_is Ls) x
            rw [trAs_ok htr] at m19 rl19
            refine zt 62 rfl (by kernel_rfl) rfl (y_move rfl rfl) rfl rfl ?_
            have m18 := m18.below (hw19.mono (by omega))
            refine lg_callw (want_t (dj := 62) (by rfl) (by kernel_rfl) rfl) (ints_S m19 m18 (by omega) (by omega)) (by kernel_rfl) rfl rfl rfl (by decide) ?_
            rintro u20 w20 ⟨e20, hw20⟩
            have zw20 := hw20.size
            obtain rfl : u20 = .bool true := e20.trans (congrArg Value.bool (decide_eq_true (show (resL Ls x) = ((resL Ls (leftI x (Ls.length : Int))) ++ (resL Ls (rightI x (Ls.length : Int)))) from (res_both hx (at_kind (p := fun k => k = 0) eg10 c11)))))
            refine za rfl (y_pick true rfl rfl rfl) rfl rfl ?_
            refine zA rfl rfl rfl rfl rfl ?_
            refine lg_nil ?_
            refine nx (zk1 4 rfl fn) ?_
            refine cg_ret ?_
            have u := u.trans (hw19.mono u.size)
            have u := u.trans (hw20.mono u.size)
            exact eg_ret_tmp rfl rfl ⟨_, rfl, rfl, u⟩
        · refine za rfl (yb (nd_t c11) (yi_neq rfl rfl rfl)) rfl rfl ?_
          refine zM rfl rfl rfl rfl rfl ?_
          refine zf 39 rfl (by kernel_rfl) rfl rfl rfl ?_
          refine zf 39 rfl (by kernel_rfl) rfl rfl rfl ?_
          refine zf 39 rfl (by kernel_rfl) rfl rfl rfl ?_
          refine za rfl (y_pick true rfl rfl rfl) rfl rfl ?_
          refine lg_nil ?_
          refine nx (zk5 0 1 4 5 43 rfl rfl rfl rfl rfl fn) ?_
          refine cg_ct rfl ?_
          refine cg_seq ?_
          refine cg_region ?_
          refine zM rfl rfl rfl rfl rfl ?_
          refine zA rfl rfl rfl rfl rfl ?_
          refine lg_nil ?_
          refine nx (zk3 0 1 5 rfl rfl rfl (zk1 4 rfl fn)) ?_
          refine cg_ret ?_
          refine eg_seq_ret ?_
          have u := u.trans (hw9.mono u.size)
          exact eg_ret_tmp rfl rfl ⟨_, rfl, rfl, u⟩
      · refine zt 17 rfl (by kernel_rfl) rfl (yb (decide_eq_false c6) (y_call (isL_any x (Ls.length : Int) _) (by kernel_rfl) rfl rfl)) rfl rfl ?_
        refine zt 17 rfl (by kernel_rfl) rfl (y_bnot rfl rfl) rfl rfl ?_
        refine za rfl (y_pick false rfl rfl rfl) rfl rfl ?_
        refine lg_nil ?_
        refine nx (zk5 0 1 4 5 23 rfl rfl rfl rfl rfl fn) ?_
        refine cg_ct rfl ?_
        refine cg_seq ?_
        refine cg_region ?_
        refine zM rfl rfl rfl rfl rfl ?_
        refine zA rfl rfl rfl rfl rfl ?_
        refine lg_nil ?_
        refine nx (zk3 0 1 5 rfl rfl rfl (zk1 4 rfl fn)) ?_
        refine cg_ret ?_
        refine eg_seq_ret ?_
        have u := u.trans (hw1.mono u.size)
        have u := u.trans (hw3.mono u.size)
        have u := u.trans (hw5.mono u.size)
        exact eg_ret_tmp rfl rfl ⟨_, rfl, rfl, u⟩
    · refine lg_callw (want_t (dj := 12) (by rfl) (by kernel_rfl) rfl) (sane_any (h.more (B' := w3.heap.size) (by omega)) (Nat.le_refl _)) (by kernel_rfl) rfl rfl rfl (by decide) ?_
      rintro u21 w21 ⟨e21, hw21⟩
      have zw21 := hw21.size
      obtain rfl : u21 = .bool false := e21.trans (congrArg Value.bool (decide_eq_false c4))
      refine zt 12 rfl (by kernel_rfl) rfl (y_bnot rfl rfl) rfl rfl ?_
      refine za rfl (y_pick false rfl rfl rfl) rfl rfl ?_
      refine zM rfl rfl rfl rfl rfl ?_
      refine zf 17 rfl (by kernel_rfl) rfl rfl rfl ?_
      refine zf 17 rfl (by kernel_rfl) rfl rfl rfl ?_
      refine zf 17 rfl (by kernel_rfl) rfl rfl rfl ?_
      refine zf 17 rfl (by kernel_rfl) rfl rfl rfl ?_
      refine zf 17 rfl (by kernel_rfl) rfl rfl rfl ?_
      refine za rfl (y_pick true rfl rfl rfl) rfl rfl ?_
      refine lg_nil ?_
      refine nx (zk5 0 1 4 5 23 rfl rfl rfl rfl rfl fn) ?_
      refine cg_ct rfl ?_
      refine cg_seq ?_
      refine cg_region ?_
      refine zM rfl rfl rfl rfl rfl ?_
      refine zA rfl rfl rfl rfl rfl ?_
      refine lg_nil ?_
      refine nx (zk3 0 1 5 rfl rfl rfl (zk1 4 rfl fn)) ?_
      refine cg_ret ?_
      refine eg_seq_ret ?_
      have u := u.trans (hw1.mono u.size)
      have u := u.trans (hw3.mono u.size)
      have u := u.trans (hw21.mono u.size)
      exact eg_ret_tmp rfl rfl ⟨_, rfl, rfl, u⟩
  · refine lg_callw (want_none (by rfl)) (fewR_any (h.more (B' := w1.heap.size) (by omega)) (Nat.le_refl _)) (by kernel_rfl) rfl rfl rfl (by decide) ?_
    rintro u22 w22 ⟨e22, hw22⟩
    have zw22 := hw22.size
    obtain rfl : u22 = .bool false := e22.trans (congrArg Value.bool (decide_eq_false c2))
    refine za rfl (y_bnot rfl rfl) rfl rfl ?_
    refine zM rfl rfl rfl rfl rfl ?_
    refine zf 12 rfl (by kernel_rfl) rfl rfl rfl ?_
    refine zf 12 rfl (by kernel_rfl) rfl rfl rfl ?_
    refine zf 12 rfl (by kernel_rfl) rfl rfl rfl ?_
    refine za rfl (y_pick true rfl rfl rfl) rfl rfl ?_
    refine zM rfl rfl rfl rfl rfl ?_
    refine zf 17 rfl (by kernel_rfl) rfl rfl rfl ?_
    refine zf 17 rfl (by kernel_rfl) rfl rfl rfl ?_
    refine zf 17 rfl (by kernel_rfl) rfl rfl rfl ?_
    refine zf 17 rfl (by kernel_rfl) rfl rfl rfl ?_
    refine zf 17 rfl (by kernel_rfl) rfl rfl rfl ?_
    refine za rfl (y_pick true rfl rfl rfl) rfl rfl ?_
    refine lg_nil ?_
    refine nx (zk5 0 1 4 5 23 rfl rfl rfl rfl rfl fn) ?_
    refine cg_ct rfl ?_
    refine cg_seq ?_
    refine cg_region ?_
    refine zM rfl rfl rfl rfl rfl ?_
    refine zA rfl rfl rfl rfl rfl ?_
    refine lg_nil ?_
    refine nx (zk3 0 1 5 rfl rfl rfl (zk1 4 rfl fn)) ?_
    refine cg_ret ?_
    refine eg_seq_ret ?_
    have u := u.trans (hw1.mono u.size)
    have u := u.trans (hw22.mono u.size)
    exact eg_ret_tmp rfl rfl ⟨_, rfl, rfl, u⟩
end Go.Proofs.YtjcnfmmekpiliaaDoor
