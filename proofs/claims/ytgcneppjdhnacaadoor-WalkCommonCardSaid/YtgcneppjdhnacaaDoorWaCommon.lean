/-
  The lowest node under which both are.
-/
import Derived.Test.YtgcneppjdhnacaaDoorWaAwake
import Derived.Test.YtgcneppjdhnacaaDoorWaMore
namespace Go.Proofs.YtgcneppjdhnacaaDoor
open Go.ChangeShapes Go.WideShapes Go.ChangeAt Go.RowKit
set_option linter.unusedVariables false
set_option maxRecDepth 20000
theorem waCommon_any (x y w : Int) (W : World) (rg : Tb W) : Calls Tryd.prog 5 #[nv x, nv y, nv w] W fun e W' => ∃ v, e = .returned v ∧ v = .bool true ∧ Below W.heap.size W W' := by
  by_cases hx : isN x w
  · by_cases hy : isN y w
    · refine calls_cg (n := 105) Tryd.func5 rfl Tryd.ntmps5 (by simp) ?_
      show CG _ _ _ [(0, nv x), (1, nv y), (2, nv w)] _ _
      have u := Below.refl W.heap.size W
      have cf := com_facts hx hy
      have cl := com_low hx hy
      refine cg_seq ?_
      refine cg_region ?_
      refine lsw (want_none (by rfl)) (y_assign rfl rfl) rfl (by decide) ?_
      refine lg_nil ?_
      refine nx (E' := [(0, _), (1, _), (2, _), (6, _)]) (fk rfl (fk rfl (fk rfl (fk rfl fn)))) ?_
      refine cg_seq ?_
      refine cg_region ?_
      refine lg_callw (want_none (by rfl)) (wawake_any _ (rg.up u)) (by kernel_rfl) rfl rfl rfl (by decide) ?_
      rintro _ w1 ⟨rfl, hw1⟩
      have zw1 := hw1.size
      refine lsw (want_none (by rfl)) (y_assign rfl rfl) rfl (by decide) ?_
      refine lg_nil ?_
      refine nx (E' := [(0, _), (1, _), (2, _), (6, _), (7, _)]) (fk rfl (fk rfl (fk rfl (fk rfl (fk rfl fn))))) ?_
      refine cg_seq ?_
      refine cg_region ?_
      refine lsw (want_none (by rfl)) (y_move rfl rfl) rfl (by decide) ?_
      refine lsw (want_none (by rfl)) (y_move rfl rfl) rfl (by decide) ?_
      refine lsw (want_none (by rfl)) (y_move rfl rfl) rfl (by decide) ?_
      have u := u.trans (hw1.mono u.size)
      refine lg_callw (want_none (by rfl)) (common_any x y w _ (rg.up u)) (by kernel_rfl) rfl rfl rfl (by decide) ?_
      rintro _ w2 ⟨rfl, hw2⟩
      have zw2 := hw2.size
      refine lsw (want_none (by rfl)) (y_assign rfl rfl) rfl (by decide) ?_
      refine lg_nil ?_
      refine nx (E' := [(0, _), (1, _), (2, _), (6, _), (7, _), (8, _)]) (fk rfl (fk rfl (fk rfl (fk rfl (fk rfl (fk rfl fn)))))) ?_
      refine cg_seq ?_
      refine cg_seq ?_
      refine cg_region ?_
      refine lsw (want_none (by rfl)) (y_move rfl rfl) rfl (by decide) ?_
      refine lsw (want_none (by rfl)) (y_move rfl rfl) rfl (by decide) ?_
      have u := u.trans (hw2.mono u.size)
      refine lsw (want_none (by rfl)) (yb (decide_eq_true hx) (y_call (is_any x w _ (rg.up u)) (by kernel_rfl) rfl rfl)) rfl (by decide) ?_
      refine lsw (want_none (by rfl)) (y_bnot rfl rfl) rfl (by decide) ?_
      refine lsw (want_none (by rfl)) (y_move rfl rfl) rfl (by decide) ?_
      refine lsw (want_t (dj := 21) (by rfl) (by kernel_rfl) rfl) (y_move rfl rfl) rfl (by decide) ?_
      refine lsw (want_t (dj := 21) (by rfl) (by kernel_rfl) rfl) (y_move rfl rfl) rfl (by decide) ?_
      refine lsw (want_t (dj := 21) (by rfl) (by kernel_rfl) rfl) (yb (decide_eq_true hy) (y_call (is_any y w _ (rg.up u)) (by kernel_rfl) rfl rfl)) rfl (by decide) ?_
      refine lsw (want_t (dj := 21) (by rfl) (by kernel_rfl) rfl) (y_bnot rfl rfl) rfl (by decide) ?_
      refine lsw (want_none (by rfl)) (y_pick false rfl rfl rfl) rfl (by decide) ?_
      refine lg_nil ?_
      refine nx (E' := [(0, _), (1, _), (2, _), (6, _), (7, _), (8, _), (26, _)]) (fk rfl (fk rfl (fk rfl (fk rfl (fk rfl (fk rfl (fk rfl fn))))))) ?_
      refine cg_cf rfl ?_
      refine cg_skip ?_
      refine nx (E' := [(0, _), (1, _), (2, _), (6, _), (7, _), (8, _)]) (fk rfl (fk rfl (fk rfl (fk rfl (fk rfl (fk rfl fn)))))) ?_
      refine cg_seq ?_
      refine cg_region ?_
      refine lsw (want_none (by rfl)) (y_move rfl rfl) rfl (by decide) ?_
      refine lsw (want_none (by rfl)) (y_move rfl rfl) rfl (by decide) ?_
      refine lsw (want_none (by rfl)) (y_call (left_any (comI x y w) w _ (rg.up u)) (by kernel_rfl) rfl rfl) rfl (by decide) ?_
      refine lsw (want_none (by rfl)) (y_assign rfl rfl) rfl (by decide) ?_
      refine lg_nil ?_
      refine nx (E' := [(0, _), (1, _), (2, _), (6, _), (7, _), (8, _), (9, _)]) (fk rfl (fk rfl (fk rfl (fk rfl (fk rfl (fk rfl (fk rfl fn))))))) ?_
      refine cg_seq ?_
      refine cg_region ?_
      refine lsw (want_none (by rfl)) (y_move rfl rfl) rfl (by decide) ?_
      refine lsw (want_none (by rfl)) (y_move rfl rfl) rfl (by decide) ?_
      refine lsw (want_none (by rfl)) (y_call (right_any (comI x y w) w _ (rg.up u)) (by kernel_rfl) rfl rfl) rfl (by decide) ?_
      refine lsw (want_none (by rfl)) (y_assign rfl rfl) rfl (by decide) ?_
      refine lg_nil ?_
      refine nx (E' := [(0, _), (1, _), (2, _), (6, _), (7, _), (8, _), (9, _), (10, _)]) (fk rfl (fk rfl (fk rfl (fk rfl (fk rfl (fk rfl (fk rfl (fk rfl fn)))))))) ?_
      refine cg_seq ?_
      refine cg_region ?_
      refine lsw (want_none (by rfl)) (y_move rfl rfl) rfl (by decide) ?_
      by_cases c3 : 0 ≤ (leftI (comI x y w) w)
      · refine lsw (want_none (by rfl)) (yb (decide_eq_true c3) (yi_geq rfl rfl rfl)) rfl (by decide) ?_
        refine lsw (want_none (by rfl)) (y_move rfl rfl) rfl (by decide) ?_
        refine lsw (want_t (dj := 40) (by rfl) (by kernel_rfl) rfl) (y_move rfl rfl) rfl (by decide) ?_
        refine lsw (want_t (dj := 40) (by rfl) (by kernel_rfl) rfl) (y_move rfl rfl) rfl (by decide) ?_
        refine lsw (want_t (dj := 40) (by rfl) (by kernel_rfl) rfl) (y_move rfl rfl) rfl (by decide) ?_
        by_cases c4 : undI x (leftI (comI x y w) w) w
        · refine lg_callw (want_t (dj := 40) (by rfl) (by kernel_rfl) rfl) (under_any x (leftI (comI x y w) w) w _ (rg.up u)) (by kernel_rfl) rfl rfl rfl (by decide) ?_
          rintro u5 w5 ⟨e5, hw5⟩
          have zw5 := hw5.size
          obtain rfl : u5 = .bool true := e5.trans (congrArg Value.bool (decide_eq_true c4))
          refine lsw (want_none (by rfl)) (y_pick true rfl rfl rfl) rfl (by decide) ?_
          refine lsw (want_none (by rfl)) (y_move rfl rfl) rfl (by decide) ?_
          refine lsw (want_t (dj := 46) (by rfl) (by kernel_rfl) rfl) (y_move rfl rfl) rfl (by decide) ?_
          refine lsw (want_t (dj := 46) (by rfl) (by kernel_rfl) rfl) (y_move rfl rfl) rfl (by decide) ?_
          refine lsw (want_t (dj := 46) (by rfl) (by kernel_rfl) rfl) (y_move rfl rfl) rfl (by decide) ?_
          have u := u.trans (hw5.mono u.size)
          by_cases c6 : undI y (leftI (comI x y w) w) w
          · exact (cl.1 c3 ⟨c4, c6⟩).elim
          · refine lg_callw (want_t (dj := 46) (by rfl) (by kernel_rfl) rfl) (under_any y (leftI (comI x y w) w) w _ (rg.up u)) (by kernel_rfl) rfl rfl rfl (by decide) ?_
            rintro u7 w7 ⟨e7, hw7⟩
            have zw7 := hw7.size
            obtain rfl : u7 = .bool false := e7.trans (congrArg Value.bool (decide_eq_false c6))
            refine lsw (want_none (by rfl)) (y_pick true rfl rfl rfl) rfl (by decide) ?_
            refine lsw (want_none (by rfl)) (y_move rfl rfl) rfl (by decide) ?_
            refine lsw (want_t (dj := 52) (by rfl) (by kernel_rfl) rfl) (y_move rfl rfl) rfl (by decide) ?_
            by_cases c8 : 0 ≤ (rightI (comI x y w) w)
            · refine lsw (want_t (dj := 52) (by rfl) (by kernel_rfl) rfl) (yb (decide_eq_true c8) (yi_geq rfl rfl rfl)) rfl (by decide) ?_
              refine lsw (want_t (dj := 52) (by rfl) (by kernel_rfl) rfl) (y_move rfl rfl) rfl (by decide) ?_
              refine lsw (want_t (dj := 55) (by rfl) (by kernel_rfl) rfl) (y_move rfl rfl) rfl (by decide) ?_
              refine lsw (want_t (dj := 55) (by rfl) (by kernel_rfl) rfl) (y_move rfl rfl) rfl (by decide) ?_
              refine lsw (want_t (dj := 55) (by rfl) (by kernel_rfl) rfl) (y_move rfl rfl) rfl (by decide) ?_
              have u := u.trans (hw7.mono u.size)
              by_cases c9 : undI x (rightI (comI x y w) w) w
              · refine lg_callw (want_t (dj := 55) (by rfl) (by kernel_rfl) rfl) (under_any x (rightI (comI x y w) w) w _ (rg.up u)) (by kernel_rfl) rfl rfl rfl (by decide) ?_
                rintro u10 w10 ⟨e10, hw10⟩
                have zw10 := hw10.size
                obtain rfl : u10 = .bool true := e10.trans (congrArg Value.bool (decide_eq_true c9))
                refine lsw (want_t (dj := 52) (by rfl) (by kernel_rfl) rfl) (y_pick true rfl rfl rfl) rfl (by decide) ?_
                refine lsw (want_t (dj := 52) (by rfl) (by kernel_rfl) rfl) (y_move rfl rfl) rfl (by decide) ?_
                refine lsw (want_t (dj := 61) (by rfl) (by kernel_rfl) rfl) (y_move rfl rfl) rfl (by decide) ?_
                refine lsw (want_t (dj := 61) (by rfl) (by kernel_rfl) rfl) (y_move rfl rfl) rfl (by decide) ?_
                refine lsw (want_t (dj := 61) (by rfl) (by kernel_rfl) rfl) (y_move rfl rfl) rfl (by decide) ?_
                have u := u.trans (hw10.mono u.size)
                by_cases c11 : undI y (rightI (comI x y w) w) w
                · exact (cl.2 c8 ⟨c9, c11⟩).elim
                · refine lg_callw (want_t (dj := 61) (by rfl) (by kernel_rfl) rfl) (under_any y (rightI (comI x y w) w) w _ (rg.up u)) (by kernel_rfl) rfl rfl rfl (by decide) ?_
                  rintro u12 w12 ⟨e12, hw12⟩
                  have zw12 := hw12.size
                  obtain rfl : u12 = .bool false := e12.trans (congrArg Value.bool (decide_eq_false c11))
                  refine lsw (want_t (dj := 52) (by rfl) (by kernel_rfl) rfl) (y_pick true rfl rfl rfl) rfl (by decide) ?_
                  refine lsw (want_none (by rfl)) (y_pick false rfl rfl rfl) rfl (by decide) ?_
                  refine lsw (want_none (by rfl)) (y_assign rfl rfl) rfl (by decide) ?_
                  refine lg_nil ?_
                  refine nx (E' := [(0, _), (1, _), (2, _), (6, _), (7, _), (8, _), (11, _)]) (fk rfl (fk rfl (fk rfl (fk rfl (fk rfl (fk rfl (fk rfl fn))))))) ?_
                  refine cg_seq ?_
                  refine cg_region ?_
                  refine lsw (want_none (by rfl)) (y_move rfl rfl) rfl (by decide) ?_
                  refine lsw (want_none (by rfl)) (y_move rfl rfl) rfl (by decide) ?_
                  refine lsw (want_t (dj := 69) (by rfl) (by kernel_rfl) rfl) (y_move rfl rfl) rfl (by decide) ?_
                  refine lsw (want_t (dj := 69) (by rfl) (by kernel_rfl) rfl) (y_move rfl rfl) rfl (by decide) ?_
                  refine lsw (want_t (dj := 69) (by rfl) (by kernel_rfl) rfl) (y_move rfl rfl) rfl (by decide) ?_
                  have u := u.trans (hw12.mono u.size)
                  refine lg_callw (want_t (dj := 69) (by rfl) (by kernel_rfl) rfl) (under_any x (comI x y w) w _ (rg.up u)) (by kernel_rfl) rfl rfl rfl (by decide) ?_
                  rintro u13 w13 ⟨e13, hw13⟩
                  have zw13 := hw13.size
                  obtain rfl : u13 = .bool true := e13.trans (congrArg Value.bool (decide_eq_true cf.2.2.1))
                  refine lsw (want_none (by rfl)) (y_pick true rfl rfl rfl) rfl (by decide) ?_
                  refine lsw (want_none (by rfl)) (y_move rfl rfl) rfl (by decide) ?_
                  refine lsw (want_t (dj := 75) (by rfl) (by kernel_rfl) rfl) (y_move rfl rfl) rfl (by decide) ?_
                  refine lsw (want_t (dj := 75) (by rfl) (by kernel_rfl) rfl) (y_move rfl rfl) rfl (by decide) ?_
                  refine lsw (want_t (dj := 75) (by rfl) (by kernel_rfl) rfl) (y_move rfl rfl) rfl (by decide) ?_
                  have u := u.trans (hw13.mono u.size)
                  refine lg_callw (want_t (dj := 75) (by rfl) (by kernel_rfl) rfl) (under_any y (comI x y w) w _ (rg.up u)) (by kernel_rfl) rfl rfl rfl (by decide) ?_
                  rintro u14 w14 ⟨e14, hw14⟩
                  have zw14 := hw14.size
                  obtain rfl : u14 = .bool true := e14.trans (congrArg Value.bool (decide_eq_true cf.2.2.2.1))
                  refine lsw (want_none (by rfl)) (y_pick true rfl rfl rfl) rfl (by decide) ?_
                  refine lsw (want_none (by rfl)) (y_move rfl rfl) rfl (by decide) ?_
                  refine lsw (want_t (dj := 81) (by rfl) (by kernel_rfl) rfl) (y_move rfl rfl) rfl (by decide) ?_
                  refine lsw (want_t (dj := 81) (by rfl) (by kernel_rfl) rfl) (y_bnot rfl rfl) rfl (by decide) ?_
                  refine lsw (want_none (by rfl)) (y_pick true rfl rfl rfl) rfl (by decide) ?_
                  refine lsw (want_none (by rfl)) (y_move rfl rfl) rfl (by decide) ?_
                  refine lsw (want_t (dj := 85) (by rfl) (by kernel_rfl) rfl) (y_move rfl rfl) rfl (by decide) ?_
                  refine lsw (want_t (dj := 85) (by rfl) (by kernel_rfl) rfl) (y_move rfl rfl) rfl (by decide) ?_
                  refine lsw (want_t (dj := 85) (by rfl) (by kernel_rfl) rfl) (y_move rfl rfl) rfl (by decide) ?_
                  have u := u.trans (hw14.mono u.size)
                  refine lg_callw (want_t (dj := 85) (by rfl) (by kernel_rfl) rfl) (common_any y x w _ (rg.up u)) (by kernel_rfl) rfl rfl rfl (by decide) ?_
                  rintro _ w15 ⟨rfl, hw15⟩
                  have zw15 := hw15.size
                  refine lsw (want_t (dj := 85) (by rfl) (by kernel_rfl) rfl) (y_move rfl rfl) rfl (by decide) ?_
                  refine lsw (want_t (dj := 85) (by rfl) (by kernel_rfl) rfl) (yb (decide_eq_true cf.2.1) (yi_eql rfl rfl rfl)) rfl (by decide) ?_
                  refine lsw (want_none (by rfl)) (y_pick true rfl rfl rfl) rfl (by decide) ?_
                  refine lsw (want_none (by rfl)) (y_move rfl rfl) rfl (by decide) ?_
                  refine lsw (want_t (dj := 93) (by rfl) (by kernel_rfl) rfl) (y_move rfl rfl) rfl (by decide) ?_
                  refine lsw (want_t (dj := 93) (by rfl) (by kernel_rfl) rfl) (y_move rfl rfl) rfl (by decide) ?_
                  refine lsw (want_t (dj := 93) (by rfl) (by kernel_rfl) rfl) (y_move rfl rfl) rfl (by decide) ?_
                  have u := u.trans (hw15.mono u.size)
                  by_cases c16 : undI x y w
                  · refine lg_callw (want_t (dj := 93) (by rfl) (by kernel_rfl) rfl) (under_any x y w _ (rg.up u)) (by kernel_rfl) rfl rfl rfl (by decide) ?_
                    rintro u17 w17 ⟨e17, hw17⟩
                    have zw17 := hw17.size
                    obtain rfl : u17 = .bool true := e17.trans (congrArg Value.bool (decide_eq_true c16))
                    refine lsw (want_t (dj := 93) (by rfl) (by kernel_rfl) rfl) (y_bnot rfl rfl) rfl (by decide) ?_
                    refine lsw (want_t (dj := 93) (by rfl) (by kernel_rfl) rfl) (y_move rfl rfl) rfl (by decide) ?_
                    refine lsw (want_t (dj := 99) (by rfl) (by kernel_rfl) rfl) (y_move rfl rfl) rfl (by decide) ?_
                    refine lsw (want_t (dj := 99) (by rfl) (by kernel_rfl) rfl) (y_move rfl rfl) rfl (by decide) ?_
                    refine lsw (want_t (dj := 99) (by rfl) (by kernel_rfl) rfl) (yb (decide_eq_true (cf.2.2.2.2 c16)) (yi_eql rfl rfl rfl)) rfl (by decide) ?_
                    refine lsw (want_t (dj := 93) (by rfl) (by kernel_rfl) rfl) (y_pick false rfl rfl rfl) rfl (by decide) ?_
                    refine lsw (want_none (by rfl)) (y_pick true rfl rfl rfl) rfl (by decide) ?_
                    refine lsw (want_none (by rfl)) (y_assign rfl rfl) rfl (by decide) ?_
                    refine lg_nil ?_
                    refine nx (E' := [(6, _)]) (fk rfl fn) ?_
                    refine cg_ret ?_
                    have u := u.trans (hw17.mono u.size)
                    exact eg_ret_tmp rfl rfl ⟨_, rfl, rfl, u⟩
                  · refine lg_callw (want_t (dj := 93) (by rfl) (by kernel_rfl) rfl) (under_any x y w _ (rg.up u)) (by kernel_rfl) rfl rfl rfl (by decide) ?_
                    rintro u18 w18 ⟨e18, hw18⟩
                    have zw18 := hw18.size
                    obtain rfl : u18 = .bool false := e18.trans (congrArg Value.bool (decide_eq_false c16))
                    refine lsw (want_t (dj := 93) (by rfl) (by kernel_rfl) rfl) (y_bnot rfl rfl) rfl (by decide) ?_
                    refine lsw (want_t (dj := 93) (by rfl) (by kernel_rfl) rfl) (y_move rfl rfl) rfl (by decide) ?_
                    refine lsk (want_f (dj := 99) (by rfl) (by kernel_rfl) rfl) rfl (by decide) ?_
                    refine lsk (want_f (dj := 99) (by rfl) (by kernel_rfl) rfl) rfl (by decide) ?_
                    refine lsk (want_f (dj := 99) (by rfl) (by kernel_rfl) rfl) rfl (by decide) ?_
                    refine lsw (want_t (dj := 93) (by rfl) (by kernel_rfl) rfl) (y_pick true rfl rfl rfl) rfl (by decide) ?_
                    refine lsw (want_none (by rfl)) (y_pick true rfl rfl rfl) rfl (by decide) ?_
                    refine lsw (want_none (by rfl)) (y_assign rfl rfl) rfl (by decide) ?_
                    refine lg_nil ?_
                    refine nx (E' := [(6, _)]) (fk rfl fn) ?_
                    refine cg_ret ?_
                    have u := u.trans (hw18.mono u.size)
                    exact eg_ret_tmp rfl rfl ⟨_, rfl, rfl, u⟩
              · refine lg_callw (want_t (dj := 55) (by rfl) (by kernel_rfl) rfl) (under_any x (rightI (comI x y w) w) w _ (rg.up u)) (by kernel_rfl) rfl rfl rfl (by decide) ?_
                rintro u19 w19 ⟨e19, hw19⟩
                have zw19 := hw19.size
                obtain rfl : u19 = .bool false := e19.trans (congrArg Value.bool (decide_eq_false c9))
                refine lsw (want_t (dj := 52) (by rfl) (by kernel_rfl) rfl) (y_pick true rfl rfl rfl) rfl (by decide) ?_
                refine lsw (want_t (dj := 52) (by rfl) (by kernel_rfl) rfl) (y_move rfl rfl) rfl (by decide) ?_
                refine lsk (want_f (dj := 61) (by rfl) (by kernel_rfl) rfl) rfl (by decide) ?_
                refine lsk (want_f (dj := 61) (by rfl) (by kernel_rfl) rfl) rfl (by decide) ?_
                refine lsk (want_f (dj := 61) (by rfl) (by kernel_rfl) rfl) rfl (by decide) ?_
                refine lsk (want_f (dj := 61) (by rfl) (by kernel_rfl) rfl) rfl (by decide) ?_
                refine lsw (want_t (dj := 52) (by rfl) (by kernel_rfl) rfl) (y_pick false rfl rfl rfl) rfl (by decide) ?_
                refine lsw (want_none (by rfl)) (y_pick false rfl rfl rfl) rfl (by decide) ?_
                refine lsw (want_none (by rfl)) (y_assign rfl rfl) rfl (by decide) ?_
                refine lg_nil ?_
                refine nx (E' := [(0, _), (1, _), (2, _), (6, _), (7, _), (8, _), (11, _)]) (fk rfl (fk rfl (fk rfl (fk rfl (fk rfl (fk rfl (fk rfl fn))))))) ?_
                refine cg_seq ?_
                refine cg_region ?_
                refine lsw (want_none (by rfl)) (y_move rfl rfl) rfl (by decide) ?_
                refine lsw (want_none (by rfl)) (y_move rfl rfl) rfl (by decide) ?_
                refine lsw (want_t (dj := 69) (by rfl) (by kernel_rfl) rfl) (y_move rfl rfl) rfl (by decide) ?_
                refine lsw (want_t (dj := 69) (by rfl) (by kernel_rfl) rfl) (y_move rfl rfl) rfl (by decide) ?_
                refine lsw (want_t (dj := 69) (by rfl) (by kernel_rfl) rfl) (y_move rfl rfl) rfl (by decide) ?_
                have u := u.trans (hw19.mono u.size)
                refine lg_callw (want_t (dj := 69) (by rfl) (by kernel_rfl) rfl) (under_any x (comI x y w) w _ (rg.up u)) (by kernel_rfl) rfl rfl rfl (by decide) ?_
                rintro u20 w20 ⟨e20, hw20⟩
                have zw20 := hw20.size
                obtain rfl : u20 = .bool true := e20.trans (congrArg Value.bool (decide_eq_true cf.2.2.1))
                refine lsw (want_none (by rfl)) (y_pick true rfl rfl rfl) rfl (by decide) ?_
                refine lsw (want_none (by rfl)) (y_move rfl rfl) rfl (by decide) ?_
                refine lsw (want_t (dj := 75) (by rfl) (by kernel_rfl) rfl) (y_move rfl rfl) rfl (by decide) ?_
                refine lsw (want_t (dj := 75) (by rfl) (by kernel_rfl) rfl) (y_move rfl rfl) rfl (by decide) ?_
                refine lsw (want_t (dj := 75) (by rfl) (by kernel_rfl) rfl) (y_move rfl rfl) rfl (by decide) ?_
                have u := u.trans (hw20.mono u.size)
                refine lg_callw (want_t (dj := 75) (by rfl) (by kernel_rfl) rfl) (under_any y (comI x y w) w _ (rg.up u)) (by kernel_rfl) rfl rfl rfl (by decide) ?_
                rintro u21 w21 ⟨e21, hw21⟩
                have zw21 := hw21.size
                obtain rfl : u21 = .bool true := e21.trans (congrArg Value.bool (decide_eq_true cf.2.2.2.1))
                refine lsw (want_none (by rfl)) (y_pick true rfl rfl rfl) rfl (by decide) ?_
                refine lsw (want_none (by rfl)) (y_move rfl rfl) rfl (by decide) ?_
                refine lsw (want_t (dj := 81) (by rfl) (by kernel_rfl) rfl) (y_move rfl rfl) rfl (by decide) ?_
                refine lsw (want_t (dj := 81) (by rfl) (by kernel_rfl) rfl) (y_bnot rfl rfl) rfl (by decide) ?_
                refine lsw (want_none (by rfl)) (y_pick true rfl rfl rfl) rfl (by decide) ?_
                refine lsw (want_none (by rfl)) (y_move rfl rfl) rfl (by decide) ?_
                refine lsw (want_t (dj := 85) (by rfl) (by kernel_rfl) rfl) (y_move rfl rfl) rfl (by decide) ?_
                refine lsw (want_t (dj := 85) (by rfl) (by kernel_rfl) rfl) (y_move rfl rfl) rfl (by decide) ?_
                refine lsw (want_t (dj := 85) (by rfl) (by kernel_rfl) rfl) (y_move rfl rfl) rfl (by decide) ?_
                have u := u.trans (hw21.mono u.size)
                refine lg_callw (want_t (dj := 85) (by rfl) (by kernel_rfl) rfl) (common_any y x w _ (rg.up u)) (by kernel_rfl) rfl rfl rfl (by decide) ?_
                rintro _ w22 ⟨rfl, hw22⟩
                have zw22 := hw22.size
                refine lsw (want_t (dj := 85) (by rfl) (by kernel_rfl) rfl) (y_move rfl rfl) rfl (by decide) ?_
                refine lsw (want_t (dj := 85) (by rfl) (by kernel_rfl) rfl) (yb (decide_eq_true cf.2.1) (yi_eql rfl rfl rfl)) rfl (by decide) ?_
                refine lsw (want_none (by rfl)) (y_pick true rfl rfl rfl) rfl (by decide) ?_
                refine lsw (want_none (by rfl)) (y_move rfl rfl) rfl (by decide) ?_
                refine lsw (want_t (dj := 93) (by rfl) (by kernel_rfl) rfl) (y_move rfl rfl) rfl (by decide) ?_
                refine lsw (want_t (dj := 93) (by rfl) (by kernel_rfl) rfl) (y_move rfl rfl) rfl (by decide) ?_
                refine lsw (want_t (dj := 93) (by rfl) (by kernel_rfl) rfl) (y_move rfl rfl) rfl (by decide) ?_
                have u := u.trans (hw22.mono u.size)
                by_cases c23 : undI x y w
                · refine lg_callw (want_t (dj := 93) (by rfl) (by kernel_rfl) rfl) (under_any x y w _ (rg.up u)) (by kernel_rfl) rfl rfl rfl (by decide) ?_
                  rintro u24 w24 ⟨e24, hw24⟩
                  have zw24 := hw24.size
                  obtain rfl : u24 = .bool true := e24.trans (congrArg Value.bool (decide_eq_true c23))
                  refine lsw (want_t (dj := 93) (by rfl) (by kernel_rfl) rfl) (y_bnot rfl rfl) rfl (by decide) ?_
                  refine lsw (want_t (dj := 93) (by rfl) (by kernel_rfl) rfl) (y_move rfl rfl) rfl (by decide) ?_
                  refine lsw (want_t (dj := 99) (by rfl) (by kernel_rfl) rfl) (y_move rfl rfl) rfl (by decide) ?_
                  refine lsw (want_t (dj := 99) (by rfl) (by kernel_rfl) rfl) (y_move rfl rfl) rfl (by decide) ?_
                  refine lsw (want_t (dj := 99) (by rfl) (by kernel_rfl) rfl) (yb (decide_eq_true (cf.2.2.2.2 c23)) (yi_eql rfl rfl rfl)) rfl (by decide) ?_
                  refine lsw (want_t (dj := 93) (by rfl) (by kernel_rfl) rfl) (y_pick false rfl rfl rfl) rfl (by decide) ?_
                  refine lsw (want_none (by rfl)) (y_pick true rfl rfl rfl) rfl (by decide) ?_
                  refine lsw (want_none (by rfl)) (y_assign rfl rfl) rfl (by decide) ?_
                  refine lg_nil ?_
                  refine nx (E' := [(6, _)]) (fk rfl fn) ?_
                  refine cg_ret ?_
                  have u := u.trans (hw24.mono u.size)
                  exact eg_ret_tmp rfl rfl ⟨_, rfl, rfl, u⟩
                · refine lg_callw (want_t (dj := 93) (by rfl) (by kernel_rfl) rfl) (under_any x y w _ (rg.up u)) (by kernel_rfl) rfl rfl rfl (by decide) ?_
                  rintro u25 w25 ⟨e25, hw25⟩
                  have zw25 := hw25.size
                  obtain rfl : u25 = .bool false := e25.trans (congrArg Value.bool (decide_eq_false c23))
                  refine lsw (want_t (dj := 93) (by rfl) (by kernel_rfl) rfl) (y_bnot rfl rfl) rfl (by decide) ?_
                  refine lsw (want_t (dj := 93) (by rfl) (by kernel_rfl) rfl) (y_move rfl rfl) rfl (by decide) ?_
                  refine lsk (want_f (dj := 99) (by rfl) (by kernel_rfl) rfl) rfl (by decide) ?_
                  refine lsk (want_f (dj := 99) (by rfl) (by kernel_rfl) rfl) rfl (by decide) ?_
                  refine lsk (want_f (dj := 99) (by rfl) (by kernel_rfl) rfl) rfl (by decide) ?_
                  refine lsw (want_t (dj := 93) (by rfl) (by kernel_rfl) rfl) (y_pick true rfl rfl rfl) rfl (by decide) ?_
                  refine lsw (want_none (by rfl)) (y_pick true rfl rfl rfl) rfl (by decide) ?_
                  refine lsw (want_none (by rfl)) (y_assign rfl rfl) rfl (by decide) ?_
                  refine lg_nil ?_
                  refine nx (E' := [(6, _)]) (fk rfl fn) ?_
                  refine cg_ret ?_
                  have u := u.trans (hw25.mono u.size)
                  exact eg_ret_tmp rfl rfl ⟨_, rfl, rfl, u⟩
            · refine lsw (want_t (dj := 52) (by rfl) (by kernel_rfl) rfl) (yb (decide_eq_false c8) (yi_geq rfl rfl rfl)) rfl (by decide) ?_
              refine lsw (want_t (dj := 52) (by rfl) (by kernel_rfl) rfl) (y_move rfl rfl) rfl (by decide) ?_
              refine lsk (want_f (dj := 55) (by rfl) (by kernel_rfl) rfl) rfl (by decide) ?_
              refine lsk (want_f (dj := 55) (by rfl) (by kernel_rfl) rfl) rfl (by decide) ?_
              refine lsk (want_f (dj := 55) (by rfl) (by kernel_rfl) rfl) rfl (by decide) ?_
              refine lsk (want_f (dj := 55) (by rfl) (by kernel_rfl) rfl) rfl (by decide) ?_
              refine lsw (want_t (dj := 52) (by rfl) (by kernel_rfl) rfl) (y_pick false rfl rfl rfl) rfl (by decide) ?_
              refine lsw (want_t (dj := 52) (by rfl) (by kernel_rfl) rfl) (y_move rfl rfl) rfl (by decide) ?_
              refine lsk (want_f (dj := 61) (by rfl) (by kernel_rfl) rfl) rfl (by decide) ?_
              refine lsk (want_f (dj := 61) (by rfl) (by kernel_rfl) rfl) rfl (by decide) ?_
              refine lsk (want_f (dj := 61) (by rfl) (by kernel_rfl) rfl) rfl (by decide) ?_
              refine lsk (want_f (dj := 61) (by rfl) (by kernel_rfl) rfl) rfl (by decide) ?_
              refine lsw (want_t (dj := 52) (by rfl) (by kernel_rfl) rfl) (y_pick false rfl rfl rfl) rfl (by decide) ?_
              refine lsw (want_none (by rfl)) (y_pick false rfl rfl rfl) rfl (by decide) ?_
              refine lsw (want_none (by rfl)) (y_assign rfl rfl) rfl (by decide) ?_
              refine lg_nil ?_
              refine nx (E' := [(0, _), (1, _), (2, _), (6, _), (7, _), (8, _), (11, _)]) (fk rfl (fk rfl (fk rfl (fk rfl (fk rfl (fk rfl (fk rfl fn))))))) ?_
              refine cg_seq ?_
              refine cg_region ?_
              refine lsw (want_none (by rfl)) (y_move rfl rfl) rfl (by decide) ?_
              refine lsw (want_none (by rfl)) (y_move rfl rfl) rfl (by decide) ?_
              refine lsw (want_t (dj := 69) (by rfl) (by kernel_rfl) rfl) (y_move rfl rfl) rfl (by decide) ?_
              refine lsw (want_t (dj := 69) (by rfl) (by kernel_rfl) rfl) (y_move rfl rfl) rfl (by decide) ?_
              refine lsw (want_t (dj := 69) (by rfl) (by kernel_rfl) rfl) (y_move rfl rfl) rfl (by decide) ?_
              have u := u.trans (hw7.mono u.size)
              refine lg_callw (want_t (dj := 69) (by rfl) (by kernel_rfl) rfl) (under_any x (comI x y w) w _ (rg.up u)) (by kernel_rfl) rfl rfl rfl (by decide) ?_
              rintro u26 w26 ⟨e26, hw26⟩
              have zw26 := hw26.size
              obtain rfl : u26 = .bool true := e26.trans (congrArg Value.bool (decide_eq_true cf.2.2.1))
              refine lsw (want_none (by rfl)) (y_pick true rfl rfl rfl) rfl (by decide) ?_
              refine lsw (want_none (by rfl)) (y_move rfl rfl) rfl (by decide) ?_
              refine lsw (want_t (dj := 75) (by rfl) (by kernel_rfl) rfl) (y_move rfl rfl) rfl (by decide) ?_
              refine lsw (want_t (dj := 75) (by rfl) (by kernel_rfl) rfl) (y_move rfl rfl) rfl (by decide) ?_
              refine lsw (want_t (dj := 75) (by rfl) (by kernel_rfl) rfl) (y_move rfl rfl) rfl (by decide) ?_
              have u := u.trans (hw26.mono u.size)
              refine lg_callw (want_t (dj := 75) (by rfl) (by kernel_rfl) rfl) (under_any y (comI x y w) w _ (rg.up u)) (by kernel_rfl) rfl rfl rfl (by decide) ?_
              rintro u27 w27 ⟨e27, hw27⟩
              have zw27 := hw27.size
              obtain rfl : u27 = .bool true := e27.trans (congrArg Value.bool (decide_eq_true cf.2.2.2.1))
              refine lsw (want_none (by rfl)) (y_pick true rfl rfl rfl) rfl (by decide) ?_
              refine lsw (want_none (by rfl)) (y_move rfl rfl) rfl (by decide) ?_
              refine lsw (want_t (dj := 81) (by rfl) (by kernel_rfl) rfl) (y_move rfl rfl) rfl (by decide) ?_
              refine lsw (want_t (dj := 81) (by rfl) (by kernel_rfl) rfl) (y_bnot rfl rfl) rfl (by decide) ?_
              refine lsw (want_none (by rfl)) (y_pick true rfl rfl rfl) rfl (by decide) ?_
              refine lsw (want_none (by rfl)) (y_move rfl rfl) rfl (by decide) ?_
              refine lsw (want_t (dj := 85) (by rfl) (by kernel_rfl) rfl) (y_move rfl rfl) rfl (by decide) ?_
              refine lsw (want_t (dj := 85) (by rfl) (by kernel_rfl) rfl) (y_move rfl rfl) rfl (by decide) ?_
              refine lsw (want_t (dj := 85) (by rfl) (by kernel_rfl) rfl) (y_move rfl rfl) rfl (by decide) ?_
              have u := u.trans (hw27.mono u.size)
              refine lg_callw (want_t (dj := 85) (by rfl) (by kernel_rfl) rfl) (common_any y x w _ (rg.up u)) (by kernel_rfl) rfl rfl rfl (by decide) ?_
              rintro _ w28 ⟨rfl, hw28⟩
              have zw28 := hw28.size
              refine lsw (want_t (dj := 85) (by rfl) (by kernel_rfl) rfl) (y_move rfl rfl) rfl (by decide) ?_
              refine lsw (want_t (dj := 85) (by rfl) (by kernel_rfl) rfl) (yb (decide_eq_true cf.2.1) (yi_eql rfl rfl rfl)) rfl (by decide) ?_
              refine lsw (want_none (by rfl)) (y_pick true rfl rfl rfl) rfl (by decide) ?_
              refine lsw (want_none (by rfl)) (y_move rfl rfl) rfl (by decide) ?_
              refine lsw (want_t (dj := 93) (by rfl) (by kernel_rfl) rfl) (y_move rfl rfl) rfl (by decide) ?_
              refine lsw (want_t (dj := 93) (by rfl) (by kernel_rfl) rfl) (y_move rfl rfl) rfl (by decide) ?_
              refine lsw (want_t (dj := 93) (by rfl) (by kernel_rfl) rfl) (y_move rfl rfl) rfl (by decide) ?_
              have u := u.trans (hw28.mono u.size)
              by_cases c29 : undI x y w
              · refine lg_callw (want_t (dj := 93) (by rfl) (by kernel_rfl) rfl) (under_any x y w _ (rg.up u)) (by kernel_rfl) rfl rfl rfl (by decide) ?_
                rintro u30 w30 ⟨e30, hw30⟩
                have zw30 := hw30.size
                obtain rfl : u30 = .bool true := e30.trans (congrArg Value.bool (decide_eq_true c29))
                refine lsw (want_t (dj := 93) (by rfl) (by kernel_rfl) rfl) (y_bnot rfl rfl) rfl (by decide) ?_
                refine lsw (want_t (dj := 93) (by rfl) (by kernel_rfl) rfl) (y_move rfl rfl) rfl (by decide) ?_
                refine lsw (want_t (dj := 99) (by rfl) (by kernel_rfl) rfl) (y_move rfl rfl) rfl (by decide) ?_
                refine lsw (want_t (dj := 99) (by rfl) (by kernel_rfl) rfl) (y_move rfl rfl) rfl (by decide) ?_
                refine lsw (want_t (dj := 99) (by rfl) (by kernel_rfl) rfl) (yb (decide_eq_true (cf.2.2.2.2 c29)) (yi_eql rfl rfl rfl)) rfl (by decide) ?_
                refine lsw (want_t (dj := 93) (by rfl) (by kernel_rfl) rfl) (y_pick false rfl rfl rfl) rfl (by decide) ?_
                refine lsw (want_none (by rfl)) (y_pick true rfl rfl rfl) rfl (by decide) ?_
                refine lsw (want_none (by rfl)) (y_assign rfl rfl) rfl (by decide) ?_
                refine lg_nil ?_
                refine nx (E' := [(6, _)]) (fk rfl fn) ?_
                refine cg_ret ?_
                have u := u.trans (hw30.mono u.size)
                exact eg_ret_tmp rfl rfl ⟨_, rfl, rfl, u⟩
              · refine lg_callw (want_t (dj := 93) (by rfl) (by kernel_rfl) rfl) (under_any x y w _ (rg.up u)) (by kernel_rfl) rfl rfl rfl (by decide) ?_
                rintro u31 w31 ⟨e31, hw31⟩
                have zw31 := hw31.size
                obtain rfl : u31 = .bool false := e31.trans (congrArg Value.bool (decide_eq_false c29))
                refine lsw (want_t (dj := 93) (by rfl) (by kernel_rfl) rfl) (y_bnot rfl rfl) rfl (by decide) ?_
                refine lsw (want_t (dj := 93) (by rfl) (by kernel_rfl) rfl) (y_move rfl rfl) rfl (by decide) ?_
                refine lsk (want_f (dj := 99) (by rfl) (by kernel_rfl) rfl) rfl (by decide) ?_
                refine lsk (want_f (dj := 99) (by rfl) (by kernel_rfl) rfl) rfl (by decide) ?_
                refine lsk (want_f (dj := 99) (by rfl) (by kernel_rfl) rfl) rfl (by decide) ?_
                refine lsw (want_t (dj := 93) (by rfl) (by kernel_rfl) rfl) (y_pick true rfl rfl rfl) rfl (by decide) ?_
                refine lsw (want_none (by rfl)) (y_pick true rfl rfl rfl) rfl (by decide) ?_
                refine lsw (want_none (by rfl)) (y_assign rfl rfl) rfl (by decide) ?_
                refine lg_nil ?_
                refine nx (E' := [(6, _)]) (fk rfl fn) ?_
                refine cg_ret ?_
                have u := u.trans (hw31.mono u.size)
                exact eg_ret_tmp rfl rfl ⟨_, rfl, rfl, u⟩
        · refine lg_callw (want_t (dj := 40) (by rfl) (by kernel_rfl) rfl) (under_any x (leftI (comI x y w) w) w _ (rg.up u)) (by kernel_rfl) rfl rfl rfl (by decide) ?_
          rintro u32 w32 ⟨e32, hw32⟩
          have zw32 := hw32.size
          obtain rfl : u32 = .bool false := e32.trans (congrArg Value.bool (decide_eq_false c4))
          refine lsw (want_none (by rfl)) (y_pick true rfl rfl rfl) rfl (by decide) ?_
          refine lsw (want_none (by rfl)) (y_move rfl rfl) rfl (by decide) ?_
          refine lsk (want_f (dj := 46) (by rfl) (by kernel_rfl) rfl) rfl (by decide) ?_
          refine lsk (want_f (dj := 46) (by rfl) (by kernel_rfl) rfl) rfl (by decide) ?_
          refine lsk (want_f (dj := 46) (by rfl) (by kernel_rfl) rfl) rfl (by decide) ?_
          refine lsk (want_f (dj := 46) (by rfl) (by kernel_rfl) rfl) rfl (by decide) ?_
          refine lsw (want_none (by rfl)) (y_pick false rfl rfl rfl) rfl (by decide) ?_
          refine lsw (want_none (by rfl)) (y_move rfl rfl) rfl (by decide) ?_
          refine lsw (want_t (dj := 52) (by rfl) (by kernel_rfl) rfl) (y_move rfl rfl) rfl (by decide) ?_
          by_cases c33 : 0 ≤ (rightI (comI x y w) w)
          · refine lsw (want_t (dj := 52) (by rfl) (by kernel_rfl) rfl) (yb (decide_eq_true c33) (yi_geq rfl rfl rfl)) rfl (by decide) ?_
            refine lsw (want_t (dj := 52) (by rfl) (by kernel_rfl) rfl) (y_move rfl rfl) rfl (by decide) ?_
            refine lsw (want_t (dj := 55) (by rfl) (by kernel_rfl) rfl) (y_move rfl rfl) rfl (by decide) ?_
            refine lsw (want_t (dj := 55) (by rfl) (by kernel_rfl) rfl) (y_move rfl rfl) rfl (by decide) ?_
            refine lsw (want_t (dj := 55) (by rfl) (by kernel_rfl) rfl) (y_move rfl rfl) rfl (by decide) ?_
            have u := u.trans (hw32.mono u.size)
            by_cases c34 : undI x (rightI (comI x y w) w) w
            · refine lg_callw (want_t (dj := 55) (by rfl) (by kernel_rfl) rfl) (under_any x (rightI (comI x y w) w) w _ (rg.up u)) (by kernel_rfl) rfl rfl rfl (by decide) ?_
              rintro u35 w35 ⟨e35, hw35⟩
              have zw35 := hw35.size
              obtain rfl : u35 = .bool true := e35.trans (congrArg Value.bool (decide_eq_true c34))
              refine lsw (want_t (dj := 52) (by rfl) (by kernel_rfl) rfl) (y_pick true rfl rfl rfl) rfl (by decide) ?_
              refine lsw (want_t (dj := 52) (by rfl) (by kernel_rfl) rfl) (y_move rfl rfl) rfl (by decide) ?_
              refine lsw (want_t (dj := 61) (by rfl) (by kernel_rfl) rfl) (y_move rfl rfl) rfl (by decide) ?_
              refine lsw (want_t (dj := 61) (by rfl) (by kernel_rfl) rfl) (y_move rfl rfl) rfl (by decide) ?_
              refine lsw (want_t (dj := 61) (by rfl) (by kernel_rfl) rfl) (y_move rfl rfl) rfl (by decide) ?_
              have u := u.trans (hw35.mono u.size)
              by_cases c36 : undI y (rightI (comI x y w) w) w
              · exact (cl.2 c33 ⟨c34, c36⟩).elim
              · refine lg_callw (want_t (dj := 61) (by rfl) (by kernel_rfl) rfl) (under_any y (rightI (comI x y w) w) w _ (rg.up u)) (by kernel_rfl) rfl rfl rfl (by decide) ?_
                rintro u37 w37 ⟨e37, hw37⟩
                have zw37 := hw37.size
                obtain rfl : u37 = .bool false := e37.trans (congrArg Value.bool (decide_eq_false c36))
                refine lsw (want_t (dj := 52) (by rfl) (by kernel_rfl) rfl) (y_pick true rfl rfl rfl) rfl (by decide) ?_
                refine lsw (want_none (by rfl)) (y_pick false rfl rfl rfl) rfl (by decide) ?_
                refine lsw (want_none (by rfl)) (y_assign rfl rfl) rfl (by decide) ?_
                refine lg_nil ?_
                refine nx (E' := [(0, _), (1, _), (2, _), (6, _), (7, _), (8, _), (11, _)]) (fk rfl (fk rfl (fk rfl (fk rfl (fk rfl (fk rfl (fk rfl fn))))))) ?_
                refine cg_seq ?_
                refine cg_region ?_
                refine lsw (want_none (by rfl)) (y_move rfl rfl) rfl (by decide) ?_
                refine lsw (want_none (by rfl)) (y_move rfl rfl) rfl (by decide) ?_
                refine lsw (want_t (dj := 69) (by rfl) (by kernel_rfl) rfl) (y_move rfl rfl) rfl (by decide) ?_
                refine lsw (want_t (dj := 69) (by rfl) (by kernel_rfl) rfl) (y_move rfl rfl) rfl (by decide) ?_
                refine lsw (want_t (dj := 69) (by rfl) (by kernel_rfl) rfl) (y_move rfl rfl) rfl (by decide) ?_
                have u := u.trans (hw37.mono u.size)
                refine lg_callw (want_t (dj := 69) (by rfl) (by kernel_rfl) rfl) (under_any x (comI x y w) w _ (rg.up u)) (by kernel_rfl) rfl rfl rfl (by decide) ?_
                rintro u38 w38 ⟨e38, hw38⟩
                have zw38 := hw38.size
                obtain rfl : u38 = .bool true := e38.trans (congrArg Value.bool (decide_eq_true cf.2.2.1))
                refine lsw (want_none (by rfl)) (y_pick true rfl rfl rfl) rfl (by decide) ?_
                refine lsw (want_none (by rfl)) (y_move rfl rfl) rfl (by decide) ?_
                refine lsw (want_t (dj := 75) (by rfl) (by kernel_rfl) rfl) (y_move rfl rfl) rfl (by decide) ?_
                refine lsw (want_t (dj := 75) (by rfl) (by kernel_rfl) rfl) (y_move rfl rfl) rfl (by decide) ?_
                refine lsw (want_t (dj := 75) (by rfl) (by kernel_rfl) rfl) (y_move rfl rfl) rfl (by decide) ?_
                have u := u.trans (hw38.mono u.size)
                refine lg_callw (want_t (dj := 75) (by rfl) (by kernel_rfl) rfl) (under_any y (comI x y w) w _ (rg.up u)) (by kernel_rfl) rfl rfl rfl (by decide) ?_
                rintro u39 w39 ⟨e39, hw39⟩
                have zw39 := hw39.size
                obtain rfl : u39 = .bool true := e39.trans (congrArg Value.bool (decide_eq_true cf.2.2.2.1))
                refine lsw (want_none (by rfl)) (y_pick true rfl rfl rfl) rfl (by decide) ?_
                refine lsw (want_none (by rfl)) (y_move rfl rfl) rfl (by decide) ?_
                refine lsw (want_t (dj := 81) (by rfl) (by kernel_rfl) rfl) (y_move rfl rfl) rfl (by decide) ?_
                refine lsw (want_t (dj := 81) (by rfl) (by kernel_rfl) rfl) (y_bnot rfl rfl) rfl (by decide) ?_
                refine lsw (want_none (by rfl)) (y_pick true rfl rfl rfl) rfl (by decide) ?_
                refine lsw (want_none (by rfl)) (y_move rfl rfl) rfl (by decide) ?_
                refine lsw (want_t (dj := 85) (by rfl) (by kernel_rfl) rfl) (y_move rfl rfl) rfl (by decide) ?_
                refine lsw (want_t (dj := 85) (by rfl) (by kernel_rfl) rfl) (y_move rfl rfl) rfl (by decide) ?_
                refine lsw (want_t (dj := 85) (by rfl) (by kernel_rfl) rfl) (y_move rfl rfl) rfl (by decide) ?_
                have u := u.trans (hw39.mono u.size)
                refine lg_callw (want_t (dj := 85) (by rfl) (by kernel_rfl) rfl) (common_any y x w _ (rg.up u)) (by kernel_rfl) rfl rfl rfl (by decide) ?_
                rintro _ w40 ⟨rfl, hw40⟩
                have zw40 := hw40.size
                refine lsw (want_t (dj := 85) (by rfl) (by kernel_rfl) rfl) (y_move rfl rfl) rfl (by decide) ?_
                refine lsw (want_t (dj := 85) (by rfl) (by kernel_rfl) rfl) (yb (decide_eq_true cf.2.1) (yi_eql rfl rfl rfl)) rfl (by decide) ?_
                refine lsw (want_none (by rfl)) (y_pick true rfl rfl rfl) rfl (by decide) ?_
                refine lsw (want_none (by rfl)) (y_move rfl rfl) rfl (by decide) ?_
                refine lsw (want_t (dj := 93) (by rfl) (by kernel_rfl) rfl) (y_move rfl rfl) rfl (by decide) ?_
                refine lsw (want_t (dj := 93) (by rfl) (by kernel_rfl) rfl) (y_move rfl rfl) rfl (by decide) ?_
                refine lsw (want_t (dj := 93) (by rfl) (by kernel_rfl) rfl) (y_move rfl rfl) rfl (by decide) ?_
                have u := u.trans (hw40.mono u.size)
                by_cases c41 : undI x y w
                · refine lg_callw (want_t (dj := 93) (by rfl) (by kernel_rfl) rfl) (under_any x y w _ (rg.up u)) (by kernel_rfl) rfl rfl rfl (by decide) ?_
                  rintro u42 w42 ⟨e42, hw42⟩
                  have zw42 := hw42.size
                  obtain rfl : u42 = .bool true := e42.trans (congrArg Value.bool (decide_eq_true c41))
                  refine lsw (want_t (dj := 93) (by rfl) (by kernel_rfl) rfl) (y_bnot rfl rfl) rfl (by decide) ?_
                  refine lsw (want_t (dj := 93) (by rfl) (by kernel_rfl) rfl) (y_move rfl rfl) rfl (by decide) ?_
                  refine lsw (want_t (dj := 99) (by rfl) (by kernel_rfl) rfl) (y_move rfl rfl) rfl (by decide) ?_
                  refine lsw (want_t (dj := 99) (by rfl) (by kernel_rfl) rfl) (y_move rfl rfl) rfl (by decide) ?_
                  refine lsw (want_t (dj := 99) (by rfl) (by kernel_rfl) rfl) (yb (decide_eq_true (cf.2.2.2.2 c41)) (yi_eql rfl rfl rfl)) rfl (by decide) ?_
                  refine lsw (want_t (dj := 93) (by rfl) (by kernel_rfl) rfl) (y_pick false rfl rfl rfl) rfl (by decide) ?_
                  refine lsw (want_none (by rfl)) (y_pick true rfl rfl rfl) rfl (by decide) ?_
                  refine lsw (want_none (by rfl)) (y_assign rfl rfl) rfl (by decide) ?_
                  refine lg_nil ?_
                  refine nx (E' := [(6, _)]) (fk rfl fn) ?_
                  refine cg_ret ?_
                  have u := u.trans (hw42.mono u.size)
                  exact eg_ret_tmp rfl rfl ⟨_, rfl, rfl, u⟩
                · refine lg_callw (want_t (dj := 93) (by rfl) (by kernel_rfl) rfl) (under_any x y w _ (rg.up u)) (by kernel_rfl) rfl rfl rfl (by decide) ?_
                  rintro u43 w43 ⟨e43, hw43⟩
                  have zw43 := hw43.size
                  obtain rfl : u43 = .bool false := e43.trans (congrArg Value.bool (decide_eq_false c41))
                  refine lsw (want_t (dj := 93) (by rfl) (by kernel_rfl) rfl) (y_bnot rfl rfl) rfl (by decide) ?_
                  refine lsw (want_t (dj := 93) (by rfl) (by kernel_rfl) rfl) (y_move rfl rfl) rfl (by decide) ?_
                  refine lsk (want_f (dj := 99) (by rfl) (by kernel_rfl) rfl) rfl (by decide) ?_
                  refine lsk (want_f (dj := 99) (by rfl) (by kernel_rfl) rfl) rfl (by decide) ?_
                  refine lsk (want_f (dj := 99) (by rfl) (by kernel_rfl) rfl) rfl (by decide) ?_
                  refine lsw (want_t (dj := 93) (by rfl) (by kernel_rfl) rfl) (y_pick true rfl rfl rfl) rfl (by decide) ?_
                  refine lsw (want_none (by rfl)) (y_pick true rfl rfl rfl) rfl (by decide) ?_
                  refine lsw (want_none (by rfl)) (y_assign rfl rfl) rfl (by decide) ?_
                  refine lg_nil ?_
                  refine nx (E' := [(6, _)]) (fk rfl fn) ?_
                  refine cg_ret ?_
                  have u := u.trans (hw43.mono u.size)
                  exact eg_ret_tmp rfl rfl ⟨_, rfl, rfl, u⟩
            · refine lg_callw (want_t (dj := 55) (by rfl) (by kernel_rfl) rfl) (under_any x (rightI (comI x y w) w) w _ (rg.up u)) (by kernel_rfl) rfl rfl rfl (by decide) ?_
              rintro u44 w44 ⟨e44, hw44⟩
              have zw44 := hw44.size
              obtain rfl : u44 = .bool false := e44.trans (congrArg Value.bool (decide_eq_false c34))
              refine lsw (want_t (dj := 52) (by rfl) (by kernel_rfl) rfl) (y_pick true rfl rfl rfl) rfl (by decide) ?_
              refine lsw (want_t (dj := 52) (by rfl) (by kernel_rfl) rfl) (y_move rfl rfl) rfl (by decide) ?_
              refine lsk (want_f (dj := 61) (by rfl) (by kernel_rfl) rfl) rfl (by decide) ?_
              refine lsk (want_f (dj := 61) (by rfl) (by kernel_rfl) rfl) rfl (by decide) ?_
              refine lsk (want_f (dj := 61) (by rfl) (by kernel_rfl) rfl) rfl (by decide) ?_
              refine lsk (want_f (dj := 61) (by rfl) (by kernel_rfl) rfl) rfl (by decide) ?_
              refine lsw (want_t (dj := 52) (by rfl) (by kernel_rfl) rfl) (y_pick false rfl rfl rfl) rfl (by decide) ?_
              refine lsw (want_none (by rfl)) (y_pick false rfl rfl rfl) rfl (by decide) ?_
              refine lsw (want_none (by rfl)) (y_assign rfl rfl) rfl (by decide) ?_
              refine lg_nil ?_
              refine nx (E' := [(0, _), (1, _), (2, _), (6, _), (7, _), (8, _), (11, _)]) (fk rfl (fk rfl (fk rfl (fk rfl (fk rfl (fk rfl (fk rfl fn))))))) ?_
              refine cg_seq ?_
              refine cg_region ?_
              refine lsw (want_none (by rfl)) (y_move rfl rfl) rfl (by decide) ?_
              refine lsw (want_none (by rfl)) (y_move rfl rfl) rfl (by decide) ?_
              refine lsw (want_t (dj := 69) (by rfl) (by kernel_rfl) rfl) (y_move rfl rfl) rfl (by decide) ?_
              refine lsw (want_t (dj := 69) (by rfl) (by kernel_rfl) rfl) (y_move rfl rfl) rfl (by decide) ?_
              refine lsw (want_t (dj := 69) (by rfl) (by kernel_rfl) rfl) (y_move rfl rfl) rfl (by decide) ?_
              have u := u.trans (hw44.mono u.size)
              refine lg_callw (want_t (dj := 69) (by rfl) (by kernel_rfl) rfl) (under_any x (comI x y w) w _ (rg.up u)) (by kernel_rfl) rfl rfl rfl (by decide) ?_
              rintro u45 w45 ⟨e45, hw45⟩
              have zw45 := hw45.size
              obtain rfl : u45 = .bool true := e45.trans (congrArg Value.bool (decide_eq_true cf.2.2.1))
              refine lsw (want_none (by rfl)) (y_pick true rfl rfl rfl) rfl (by decide) ?_
              refine lsw (want_none (by rfl)) (y_move rfl rfl) rfl (by decide) ?_
              refine lsw (want_t (dj := 75) (by rfl) (by kernel_rfl) rfl) (y_move rfl rfl) rfl (by decide) ?_
              refine lsw (want_t (dj := 75) (by rfl) (by kernel_rfl) rfl) (y_move rfl rfl) rfl (by decide) ?_
              refine lsw (want_t (dj := 75) (by rfl) (by kernel_rfl) rfl) (y_move rfl rfl) rfl (by decide) ?_
              have u := u.trans (hw45.mono u.size)
              refine lg_callw (want_t (dj := 75) (by rfl) (by kernel_rfl) rfl) (under_any y (comI x y w) w _ (rg.up u)) (by kernel_rfl) rfl rfl rfl (by decide) ?_
              rintro u46 w46 ⟨e46, hw46⟩
              have zw46 := hw46.size
              obtain rfl : u46 = .bool true := e46.trans (congrArg Value.bool (decide_eq_true cf.2.2.2.1))
              refine lsw (want_none (by rfl)) (y_pick true rfl rfl rfl) rfl (by decide) ?_
              refine lsw (want_none (by rfl)) (y_move rfl rfl) rfl (by decide) ?_
              refine lsw (want_t (dj := 81) (by rfl) (by kernel_rfl) rfl) (y_move rfl rfl) rfl (by decide) ?_
              refine lsw (want_t (dj := 81) (by rfl) (by kernel_rfl) rfl) (y_bnot rfl rfl) rfl (by decide) ?_
              refine lsw (want_none (by rfl)) (y_pick true rfl rfl rfl) rfl (by decide) ?_
              refine lsw (want_none (by rfl)) (y_move rfl rfl) rfl (by decide) ?_
              refine lsw (want_t (dj := 85) (by rfl) (by kernel_rfl) rfl) (y_move rfl rfl) rfl (by decide) ?_
              refine lsw (want_t (dj := 85) (by rfl) (by kernel_rfl) rfl) (y_move rfl rfl) rfl (by decide) ?_
              refine lsw (want_t (dj := 85) (by rfl) (by kernel_rfl) rfl) (y_move rfl rfl) rfl (by decide) ?_
              have u := u.trans (hw46.mono u.size)
              refine lg_callw (want_t (dj := 85) (by rfl) (by kernel_rfl) rfl) (common_any y x w _ (rg.up u)) (by kernel_rfl) rfl rfl rfl (by decide) ?_
              rintro _ w47 ⟨rfl, hw47⟩
              have zw47 := hw47.size
              refine lsw (want_t (dj := 85) (by rfl) (by kernel_rfl) rfl) (y_move rfl rfl) rfl (by decide) ?_
              refine lsw (want_t (dj := 85) (by rfl) (by kernel_rfl) rfl) (yb (decide_eq_true cf.2.1) (yi_eql rfl rfl rfl)) rfl (by decide) ?_
              refine lsw (want_none (by rfl)) (y_pick true rfl rfl rfl) rfl (by decide) ?_
              refine lsw (want_none (by rfl)) (y_move rfl rfl) rfl (by decide) ?_
              refine lsw (want_t (dj := 93) (by rfl) (by kernel_rfl) rfl) (y_move rfl rfl) rfl (by decide) ?_
              refine lsw (want_t (dj := 93) (by rfl) (by kernel_rfl) rfl) (y_move rfl rfl) rfl (by decide) ?_
              refine lsw (want_t (dj := 93) (by rfl) (by kernel_rfl) rfl) (y_move rfl rfl) rfl (by decide) ?_
              have u := u.trans (hw47.mono u.size)
              by_cases c48 : undI x y w
              · refine lg_callw (want_t (dj := 93) (by rfl) (by kernel_rfl) rfl) (under_any x y w _ (rg.up u)) (by kernel_rfl) rfl rfl rfl (by decide) ?_
                rintro u49 w49 ⟨e49, hw49⟩
                have zw49 := hw49.size
                obtain rfl : u49 = .bool true := e49.trans (congrArg Value.bool (decide_eq_true c48))
                refine lsw (want_t (dj := 93) (by rfl) (by kernel_rfl) rfl) (y_bnot rfl rfl) rfl (by decide) ?_
                refine lsw (want_t (dj := 93) (by rfl) (by kernel_rfl) rfl) (y_move rfl rfl) rfl (by decide) ?_
                refine lsw (want_t (dj := 99) (by rfl) (by kernel_rfl) rfl) (y_move rfl rfl) rfl (by decide) ?_
                refine lsw (want_t (dj := 99) (by rfl) (by kernel_rfl) rfl) (y_move rfl rfl) rfl (by decide) ?_
                refine lsw (want_t (dj := 99) (by rfl) (by kernel_rfl) rfl) (yb (decide_eq_true (cf.2.2.2.2 c48)) (yi_eql rfl rfl rfl)) rfl (by decide) ?_
                refine lsw (want_t (dj := 93) (by rfl) (by kernel_rfl) rfl) (y_pick false rfl rfl rfl) rfl (by decide) ?_
                refine lsw (want_none (by rfl)) (y_pick true rfl rfl rfl) rfl (by decide) ?_
                refine lsw (want_none (by rfl)) (y_assign rfl rfl) rfl (by decide) ?_
                refine lg_nil ?_
                refine nx (E' := [(6, _)]) (fk rfl fn) ?_
                refine cg_ret ?_
                have u := u.trans (hw49.mono u.size)
                exact eg_ret_tmp rfl rfl ⟨_, rfl, rfl, u⟩
              · refine lg_callw (want_t (dj := 93) (by rfl) (by kernel_rfl) rfl) (under_any x y w _ (rg.up u)) (by kernel_rfl) rfl rfl rfl (by decide) ?_
                rintro u50 w50 ⟨e50, hw50⟩
                have zw50 := hw50.size
                obtain rfl : u50 = .bool false := e50.trans (congrArg Value.bool (decide_eq_false c48))
                refine lsw (want_t (dj := 93) (by rfl) (by kernel_rfl) rfl) (y_bnot rfl rfl) rfl (by decide) ?_
                refine lsw (want_t (dj := 93) (by rfl) (by kernel_rfl) rfl) (y_move rfl rfl) rfl (by decide) ?_
                refine lsk (want_f (dj := 99) (by rfl) (by kernel_rfl) rfl) rfl (by decide) ?_
                refine lsk (want_f (dj := 99) (by rfl) (by kernel_rfl) rfl) rfl (by decide) ?_
                refine lsk (want_f (dj := 99) (by rfl) (by kernel_rfl) rfl) rfl (by decide) ?_
                refine lsw (want_t (dj := 93) (by rfl) (by kernel_rfl) rfl) (y_pick true rfl rfl rfl) rfl (by decide) ?_
                refine lsw (want_none (by rfl)) (y_pick true rfl rfl rfl) rfl (by decide) ?_
                refine lsw (want_none (by rfl)) (y_assign rfl rfl) rfl (by decide) ?_
                refine lg_nil ?_
                refine nx (E' := [(6, _)]) (fk rfl fn) ?_
                refine cg_ret ?_
                have u := u.trans (hw50.mono u.size)
                exact eg_ret_tmp rfl rfl ⟨_, rfl, rfl, u⟩
          · refine lsw (want_t (dj := 52) (by rfl) (by kernel_rfl) rfl) (yb (decide_eq_false c33) (yi_geq rfl rfl rfl)) rfl (by decide) ?_
            refine lsw (want_t (dj := 52) (by rfl) (by kernel_rfl) rfl) (y_move rfl rfl) rfl (by decide) ?_
            refine lsk (want_f (dj := 55) (by rfl) (by kernel_rfl) rfl) rfl (by decide) ?_
            refine lsk (want_f (dj := 55) (by rfl) (by kernel_rfl) rfl) rfl (by decide) ?_
            refine lsk (want_f (dj := 55) (by rfl) (by kernel_rfl) rfl) rfl (by decide) ?_
            refine lsk (want_f (dj := 55) (by rfl) (by kernel_rfl) rfl) rfl (by decide) ?_
            refine lsw (want_t (dj := 52) (by rfl) (by kernel_rfl) rfl) (y_pick false rfl rfl rfl) rfl (by decide) ?_
            refine lsw (want_t (dj := 52) (by rfl) (by kernel_rfl) rfl) (y_move rfl rfl) rfl (by decide) ?_
            refine lsk (want_f (dj := 61) (by rfl) (by kernel_rfl) rfl) rfl (by decide) ?_
            refine lsk (want_f (dj := 61) (by rfl) (by kernel_rfl) rfl) rfl (by decide) ?_
            refine lsk (want_f (dj := 61) (by rfl) (by kernel_rfl) rfl) rfl (by decide) ?_
            refine lsk (want_f (dj := 61) (by rfl) (by kernel_rfl) rfl) rfl (by decide) ?_
            refine lsw (want_t (dj := 52) (by rfl) (by kernel_rfl) rfl) (y_pick false rfl rfl rfl) rfl (by decide) ?_
            refine lsw (want_none (by rfl)) (y_pick false rfl rfl rfl) rfl (by decide) ?_
            refine lsw (want_none (by rfl)) (y_assign rfl rfl) rfl (by decide) ?_
            refine lg_nil ?_
            refine nx (E' := [(0, _), (1, _), (2, _), (6, _), (7, _), (8, _), (11, _)]) (fk rfl (fk rfl (fk rfl (fk rfl (fk rfl (fk rfl (fk rfl fn))))))) ?_
            refine cg_seq ?_
            refine cg_region ?_
            refine lsw (want_none (by rfl)) (y_move rfl rfl) rfl (by decide) ?_
            refine lsw (want_none (by rfl)) (y_move rfl rfl) rfl (by decide) ?_
            refine lsw (want_t (dj := 69) (by rfl) (by kernel_rfl) rfl) (y_move rfl rfl) rfl (by decide) ?_
            refine lsw (want_t (dj := 69) (by rfl) (by kernel_rfl) rfl) (y_move rfl rfl) rfl (by decide) ?_
            refine lsw (want_t (dj := 69) (by rfl) (by kernel_rfl) rfl) (y_move rfl rfl) rfl (by decide) ?_
            have u := u.trans (hw32.mono u.size)
            refine lg_callw (want_t (dj := 69) (by rfl) (by kernel_rfl) rfl) (under_any x (comI x y w) w _ (rg.up u)) (by kernel_rfl) rfl rfl rfl (by decide) ?_
            rintro u51 w51 ⟨e51, hw51⟩
            have zw51 := hw51.size
            obtain rfl : u51 = .bool true := e51.trans (congrArg Value.bool (decide_eq_true cf.2.2.1))
            refine lsw (want_none (by rfl)) (y_pick true rfl rfl rfl) rfl (by decide) ?_
            refine lsw (want_none (by rfl)) (y_move rfl rfl) rfl (by decide) ?_
            refine lsw (want_t (dj := 75) (by rfl) (by kernel_rfl) rfl) (y_move rfl rfl) rfl (by decide) ?_
            refine lsw (want_t (dj := 75) (by rfl) (by kernel_rfl) rfl) (y_move rfl rfl) rfl (by decide) ?_
            refine lsw (want_t (dj := 75) (by rfl) (by kernel_rfl) rfl) (y_move rfl rfl) rfl (by decide) ?_
            have u := u.trans (hw51.mono u.size)
            refine lg_callw (want_t (dj := 75) (by rfl) (by kernel_rfl) rfl) (under_any y (comI x y w) w _ (rg.up u)) (by kernel_rfl) rfl rfl rfl (by decide) ?_
            rintro u52 w52 ⟨e52, hw52⟩
            have zw52 := hw52.size
            obtain rfl : u52 = .bool true := e52.trans (congrArg Value.bool (decide_eq_true cf.2.2.2.1))
            refine lsw (want_none (by rfl)) (y_pick true rfl rfl rfl) rfl (by decide) ?_
            refine lsw (want_none (by rfl)) (y_move rfl rfl) rfl (by decide) ?_
            refine lsw (want_t (dj := 81) (by rfl) (by kernel_rfl) rfl) (y_move rfl rfl) rfl (by decide) ?_
            refine lsw (want_t (dj := 81) (by rfl) (by kernel_rfl) rfl) (y_bnot rfl rfl) rfl (by decide) ?_
            refine lsw (want_none (by rfl)) (y_pick true rfl rfl rfl) rfl (by decide) ?_
            refine lsw (want_none (by rfl)) (y_move rfl rfl) rfl (by decide) ?_
            refine lsw (want_t (dj := 85) (by rfl) (by kernel_rfl) rfl) (y_move rfl rfl) rfl (by decide) ?_
            refine lsw (want_t (dj := 85) (by rfl) (by kernel_rfl) rfl) (y_move rfl rfl) rfl (by decide) ?_
            refine lsw (want_t (dj := 85) (by rfl) (by kernel_rfl) rfl) (y_move rfl rfl) rfl (by decide) ?_
            have u := u.trans (hw52.mono u.size)
            refine lg_callw (want_t (dj := 85) (by rfl) (by kernel_rfl) rfl) (common_any y x w _ (rg.up u)) (by kernel_rfl) rfl rfl rfl (by decide) ?_
            rintro _ w53 ⟨rfl, hw53⟩
            have zw53 := hw53.size
            refine lsw (want_t (dj := 85) (by rfl) (by kernel_rfl) rfl) (y_move rfl rfl) rfl (by decide) ?_
            refine lsw (want_t (dj := 85) (by rfl) (by kernel_rfl) rfl) (yb (decide_eq_true cf.2.1) (yi_eql rfl rfl rfl)) rfl (by decide) ?_
            refine lsw (want_none (by rfl)) (y_pick true rfl rfl rfl) rfl (by decide) ?_
            refine lsw (want_none (by rfl)) (y_move rfl rfl) rfl (by decide) ?_
            refine lsw (want_t (dj := 93) (by rfl) (by kernel_rfl) rfl) (y_move rfl rfl) rfl (by decide) ?_
            refine lsw (want_t (dj := 93) (by rfl) (by kernel_rfl) rfl) (y_move rfl rfl) rfl (by decide) ?_
            refine lsw (want_t (dj := 93) (by rfl) (by kernel_rfl) rfl) (y_move rfl rfl) rfl (by decide) ?_
            have u := u.trans (hw53.mono u.size)
            by_cases c54 : undI x y w
            · refine lg_callw (want_t (dj := 93) (by rfl) (by kernel_rfl) rfl) (under_any x y w _ (rg.up u)) (by kernel_rfl) rfl rfl rfl (by decide) ?_
              rintro u55 w55 ⟨e55, hw55⟩
              have zw55 := hw55.size
              obtain rfl : u55 = .bool true := e55.trans (congrArg Value.bool (decide_eq_true c54))
              refine lsw (want_t (dj := 93) (by rfl) (by kernel_rfl) rfl) (y_bnot rfl rfl) rfl (by decide) ?_
              refine lsw (want_t (dj := 93) (by rfl) (by kernel_rfl) rfl) (y_move rfl rfl) rfl (by decide) ?_
              refine lsw (want_t (dj := 99) (by rfl) (by kernel_rfl) rfl) (y_move rfl rfl) rfl (by decide) ?_
              refine lsw (want_t (dj := 99) (by rfl) (by kernel_rfl) rfl) (y_move rfl rfl) rfl (by decide) ?_
              refine lsw (want_t (dj := 99) (by rfl) (by kernel_rfl) rfl) (yb (decide_eq_true (cf.2.2.2.2 c54)) (yi_eql rfl rfl rfl)) rfl (by decide) ?_
              refine lsw (want_t (dj := 93) (by rfl) (by kernel_rfl) rfl) (y_pick false rfl rfl rfl) rfl (by decide) ?_
              refine lsw (want_none (by rfl)) (y_pick true rfl rfl rfl) rfl (by decide) ?_
              refine lsw (want_none (by rfl)) (y_assign rfl rfl) rfl (by decide) ?_
              refine lg_nil ?_
              refine nx (E' := [(6, _)]) (fk rfl fn) ?_
              refine cg_ret ?_
              have u := u.trans (hw55.mono u.size)
              exact eg_ret_tmp rfl rfl ⟨_, rfl, rfl, u⟩
            · refine lg_callw (want_t (dj := 93) (by rfl) (by kernel_rfl) rfl) (under_any x y w _ (rg.up u)) (by kernel_rfl) rfl rfl rfl (by decide) ?_
              rintro u56 w56 ⟨e56, hw56⟩
              have zw56 := hw56.size
              obtain rfl : u56 = .bool false := e56.trans (congrArg Value.bool (decide_eq_false c54))
              refine lsw (want_t (dj := 93) (by rfl) (by kernel_rfl) rfl) (y_bnot rfl rfl) rfl (by decide) ?_
              refine lsw (want_t (dj := 93) (by rfl) (by kernel_rfl) rfl) (y_move rfl rfl) rfl (by decide) ?_
              refine lsk (want_f (dj := 99) (by rfl) (by kernel_rfl) rfl) rfl (by decide) ?_
              refine lsk (want_f (dj := 99) (by rfl) (by kernel_rfl) rfl) rfl (by decide) ?_
              refine lsk (want_f (dj := 99) (by rfl) (by kernel_rfl) rfl) rfl (by decide) ?_
              refine lsw (want_t (dj := 93) (by rfl) (by kernel_rfl) rfl) (y_pick true rfl rfl rfl) rfl (by decide) ?_
              refine lsw (want_none (by rfl)) (y_pick true rfl rfl rfl) rfl (by decide) ?_
              refine lsw (want_none (by rfl)) (y_assign rfl rfl) rfl (by decide) ?_
              refine lg_nil ?_
              refine nx (E' := [(6, _)]) (fk rfl fn) ?_
              refine cg_ret ?_
              have u := u.trans (hw56.mono u.size)
              exact eg_ret_tmp rfl rfl ⟨_, rfl, rfl, u⟩
      · refine lsw (want_none (by rfl)) (yb (decide_eq_false c3) (yi_geq rfl rfl rfl)) rfl (by decide) ?_
        refine lsw (want_none (by rfl)) (y_move rfl rfl) rfl (by decide) ?_
        refine lsk (want_f (dj := 40) (by rfl) (by kernel_rfl) rfl) rfl (by decide) ?_
        refine lsk (want_f (dj := 40) (by rfl) (by kernel_rfl) rfl) rfl (by decide) ?_
        refine lsk (want_f (dj := 40) (by rfl) (by kernel_rfl) rfl) rfl (by decide) ?_
        refine lsk (want_f (dj := 40) (by rfl) (by kernel_rfl) rfl) rfl (by decide) ?_
        refine lsw (want_none (by rfl)) (y_pick false rfl rfl rfl) rfl (by decide) ?_
        refine lsw (want_none (by rfl)) (y_move rfl rfl) rfl (by decide) ?_
        refine lsk (want_f (dj := 46) (by rfl) (by kernel_rfl) rfl) rfl (by decide) ?_
        refine lsk (want_f (dj := 46) (by rfl) (by kernel_rfl) rfl) rfl (by decide) ?_
        refine lsk (want_f (dj := 46) (by rfl) (by kernel_rfl) rfl) rfl (by decide) ?_
        refine lsk (want_f (dj := 46) (by rfl) (by kernel_rfl) rfl) rfl (by decide) ?_
        refine lsw (want_none (by rfl)) (y_pick false rfl rfl rfl) rfl (by decide) ?_
        refine lsw (want_none (by rfl)) (y_move rfl rfl) rfl (by decide) ?_
        refine lsw (want_t (dj := 52) (by rfl) (by kernel_rfl) rfl) (y_move rfl rfl) rfl (by decide) ?_
        by_cases c57 : 0 ≤ (rightI (comI x y w) w)
        · refine lsw (want_t (dj := 52) (by rfl) (by kernel_rfl) rfl) (yb (decide_eq_true c57) (yi_geq rfl rfl rfl)) rfl (by decide) ?_
          refine lsw (want_t (dj := 52) (by rfl) (by kernel_rfl) rfl) (y_move rfl rfl) rfl (by decide) ?_
          refine lsw (want_t (dj := 55) (by rfl) (by kernel_rfl) rfl) (y_move rfl rfl) rfl (by decide) ?_
          refine lsw (want_t (dj := 55) (by rfl) (by kernel_rfl) rfl) (y_move rfl rfl) rfl (by decide) ?_
          refine lsw (want_t (dj := 55) (by rfl) (by kernel_rfl) rfl) (y_move rfl rfl) rfl (by decide) ?_
          by_cases c58 : undI x (rightI (comI x y w) w) w
          · refine lg_callw (want_t (dj := 55) (by rfl) (by kernel_rfl) rfl) (under_any x (rightI (comI x y w) w) w _ (rg.up u)) (by kernel_rfl) rfl rfl rfl (by decide) ?_
            rintro u59 w59 ⟨e59, hw59⟩
            have zw59 := hw59.size
            obtain rfl : u59 = .bool true := e59.trans (congrArg Value.bool (decide_eq_true c58))
            refine lsw (want_t (dj := 52) (by rfl) (by kernel_rfl) rfl) (y_pick true rfl rfl rfl) rfl (by decide) ?_
            refine lsw (want_t (dj := 52) (by rfl) (by kernel_rfl) rfl) (y_move rfl rfl) rfl (by decide) ?_
            refine lsw (want_t (dj := 61) (by rfl) (by kernel_rfl) rfl) (y_move rfl rfl) rfl (by decide) ?_
            refine lsw (want_t (dj := 61) (by rfl) (by kernel_rfl) rfl) (y_move rfl rfl) rfl (by decide) ?_
            refine lsw (want_t (dj := 61) (by rfl) (by kernel_rfl) rfl) (y_move rfl rfl) rfl (by decide) ?_
            have u := u.trans (hw59.mono u.size)
            by_cases c60 : undI y (rightI (comI x y w) w) w
            · exact (cl.2 c57 ⟨c58, c60⟩).elim
            · refine lg_callw (want_t (dj := 61) (by rfl) (by kernel_rfl) rfl) (under_any y (rightI (comI x y w) w) w _ (rg.up u)) (by kernel_rfl) rfl rfl rfl (by decide) ?_
              rintro u61 w61 ⟨e61, hw61⟩
              have zw61 := hw61.size
              obtain rfl : u61 = .bool false := e61.trans (congrArg Value.bool (decide_eq_false c60))
              refine lsw (want_t (dj := 52) (by rfl) (by kernel_rfl) rfl) (y_pick true rfl rfl rfl) rfl (by decide) ?_
              refine lsw (want_none (by rfl)) (y_pick false rfl rfl rfl) rfl (by decide) ?_
              refine lsw (want_none (by rfl)) (y_assign rfl rfl) rfl (by decide) ?_
              refine lg_nil ?_
              refine nx (E' := [(0, _), (1, _), (2, _), (6, _), (7, _), (8, _), (11, _)]) (fk rfl (fk rfl (fk rfl (fk rfl (fk rfl (fk rfl (fk rfl fn))))))) ?_
              refine cg_seq ?_
              refine cg_region ?_
              refine lsw (want_none (by rfl)) (y_move rfl rfl) rfl (by decide) ?_
              refine lsw (want_none (by rfl)) (y_move rfl rfl) rfl (by decide) ?_
              refine lsw (want_t (dj := 69) (by rfl) (by kernel_rfl) rfl) (y_move rfl rfl) rfl (by decide) ?_
              refine lsw (want_t (dj := 69) (by rfl) (by kernel_rfl) rfl) (y_move rfl rfl) rfl (by decide) ?_
              refine lsw (want_t (dj := 69) (by rfl) (by kernel_rfl) rfl) (y_move rfl rfl) rfl (by decide) ?_
              have u := u.trans (hw61.mono u.size)
              refine lg_callw (want_t (dj := 69) (by rfl) (by kernel_rfl) rfl) (under_any x (comI x y w) w _ (rg.up u)) (by kernel_rfl) rfl rfl rfl (by decide) ?_
              rintro u62 w62 ⟨e62, hw62⟩
              have zw62 := hw62.size
              obtain rfl : u62 = .bool true := e62.trans (congrArg Value.bool (decide_eq_true cf.2.2.1))
              refine lsw (want_none (by rfl)) (y_pick true rfl rfl rfl) rfl (by decide) ?_
              refine lsw (want_none (by rfl)) (y_move rfl rfl) rfl (by decide) ?_
              refine lsw (want_t (dj := 75) (by rfl) (by kernel_rfl) rfl) (y_move rfl rfl) rfl (by decide) ?_
              refine lsw (want_t (dj := 75) (by rfl) (by kernel_rfl) rfl) (y_move rfl rfl) rfl (by decide) ?_
              refine lsw (want_t (dj := 75) (by rfl) (by kernel_rfl) rfl) (y_move rfl rfl) rfl (by decide) ?_
              have u := u.trans (hw62.mono u.size)
              refine lg_callw (want_t (dj := 75) (by rfl) (by kernel_rfl) rfl) (under_any y (comI x y w) w _ (rg.up u)) (by kernel_rfl) rfl rfl rfl (by decide) ?_
              rintro u63 w63 ⟨e63, hw63⟩
              have zw63 := hw63.size
              obtain rfl : u63 = .bool true := e63.trans (congrArg Value.bool (decide_eq_true cf.2.2.2.1))
              refine lsw (want_none (by rfl)) (y_pick true rfl rfl rfl) rfl (by decide) ?_
              refine lsw (want_none (by rfl)) (y_move rfl rfl) rfl (by decide) ?_
              refine lsw (want_t (dj := 81) (by rfl) (by kernel_rfl) rfl) (y_move rfl rfl) rfl (by decide) ?_
              refine lsw (want_t (dj := 81) (by rfl) (by kernel_rfl) rfl) (y_bnot rfl rfl) rfl (by decide) ?_
              refine lsw (want_none (by rfl)) (y_pick true rfl rfl rfl) rfl (by decide) ?_
              refine lsw (want_none (by rfl)) (y_move rfl rfl) rfl (by decide) ?_
              refine lsw (want_t (dj := 85) (by rfl) (by kernel_rfl) rfl) (y_move rfl rfl) rfl (by decide) ?_
              refine lsw (want_t (dj := 85) (by rfl) (by kernel_rfl) rfl) (y_move rfl rfl) rfl (by decide) ?_
              refine lsw (want_t (dj := 85) (by rfl) (by kernel_rfl) rfl) (y_move rfl rfl) rfl (by decide) ?_
              have u := u.trans (hw63.mono u.size)
              refine lg_callw (want_t (dj := 85) (by rfl) (by kernel_rfl) rfl) (common_any y x w _ (rg.up u)) (by kernel_rfl) rfl rfl rfl (by decide) ?_
              rintro _ w64 ⟨rfl, hw64⟩
              have zw64 := hw64.size
              refine lsw (want_t (dj := 85) (by rfl) (by kernel_rfl) rfl) (y_move rfl rfl) rfl (by decide) ?_
              refine lsw (want_t (dj := 85) (by rfl) (by kernel_rfl) rfl) (yb (decide_eq_true cf.2.1) (yi_eql rfl rfl rfl)) rfl (by decide) ?_
              refine lsw (want_none (by rfl)) (y_pick true rfl rfl rfl) rfl (by decide) ?_
              refine lsw (want_none (by rfl)) (y_move rfl rfl) rfl (by decide) ?_
              refine lsw (want_t (dj := 93) (by rfl) (by kernel_rfl) rfl) (y_move rfl rfl) rfl (by decide) ?_
              refine lsw (want_t (dj := 93) (by rfl) (by kernel_rfl) rfl) (y_move rfl rfl) rfl (by decide) ?_
              refine lsw (want_t (dj := 93) (by rfl) (by kernel_rfl) rfl) (y_move rfl rfl) rfl (by decide) ?_
              have u := u.trans (hw64.mono u.size)
              by_cases c65 : undI x y w
              · refine lg_callw (want_t (dj := 93) (by rfl) (by kernel_rfl) rfl) (under_any x y w _ (rg.up u)) (by kernel_rfl) rfl rfl rfl (by decide) ?_
                rintro u66 w66 ⟨e66, hw66⟩
                have zw66 := hw66.size
                obtain rfl : u66 = .bool true := e66.trans (congrArg Value.bool (decide_eq_true c65))
                refine lsw (want_t (dj := 93) (by rfl) (by kernel_rfl) rfl) (y_bnot rfl rfl) rfl (by decide) ?_
                refine lsw (want_t (dj := 93) (by rfl) (by kernel_rfl) rfl) (y_move rfl rfl) rfl (by decide) ?_
                refine lsw (want_t (dj := 99) (by rfl) (by kernel_rfl) rfl) (y_move rfl rfl) rfl (by decide) ?_
                refine lsw (want_t (dj := 99) (by rfl) (by kernel_rfl) rfl) (y_move rfl rfl) rfl (by decide) ?_
                refine lsw (want_t (dj := 99) (by rfl) (by kernel_rfl) rfl) (yb (decide_eq_true (cf.2.2.2.2 c65)) (yi_eql rfl rfl rfl)) rfl (by decide) ?_
                refine lsw (want_t (dj := 93) (by rfl) (by kernel_rfl) rfl) (y_pick false rfl rfl rfl) rfl (by decide) ?_
                refine lsw (want_none (by rfl)) (y_pick true rfl rfl rfl) rfl (by decide) ?_
                refine lsw (want_none (by rfl)) (y_assign rfl rfl) rfl (by decide) ?_
                refine lg_nil ?_
                refine nx (E' := [(6, _)]) (fk rfl fn) ?_
                refine cg_ret ?_
                have u := u.trans (hw66.mono u.size)
                exact eg_ret_tmp rfl rfl ⟨_, rfl, rfl, u⟩
              · refine lg_callw (want_t (dj := 93) (by rfl) (by kernel_rfl) rfl) (under_any x y w _ (rg.up u)) (by kernel_rfl) rfl rfl rfl (by decide) ?_
                rintro u67 w67 ⟨e67, hw67⟩
                have zw67 := hw67.size
                obtain rfl : u67 = .bool false := e67.trans (congrArg Value.bool (decide_eq_false c65))
                refine lsw (want_t (dj := 93) (by rfl) (by kernel_rfl) rfl) (y_bnot rfl rfl) rfl (by decide) ?_
                refine lsw (want_t (dj := 93) (by rfl) (by kernel_rfl) rfl) (y_move rfl rfl) rfl (by decide) ?_
                refine lsk (want_f (dj := 99) (by rfl) (by kernel_rfl) rfl) rfl (by decide) ?_
                refine lsk (want_f (dj := 99) (by rfl) (by kernel_rfl) rfl) rfl (by decide) ?_
                refine lsk (want_f (dj := 99) (by rfl) (by kernel_rfl) rfl) rfl (by decide) ?_
                refine lsw (want_t (dj := 93) (by rfl) (by kernel_rfl) rfl) (y_pick true rfl rfl rfl) rfl (by decide) ?_
                refine lsw (want_none (by rfl)) (y_pick true rfl rfl rfl) rfl (by decide) ?_
                refine lsw (want_none (by rfl)) (y_assign rfl rfl) rfl (by decide) ?_
                refine lg_nil ?_
                refine nx (E' := [(6, _)]) (fk rfl fn) ?_
                refine cg_ret ?_
                have u := u.trans (hw67.mono u.size)
                exact eg_ret_tmp rfl rfl ⟨_, rfl, rfl, u⟩
          · refine lg_callw (want_t (dj := 55) (by rfl) (by kernel_rfl) rfl) (under_any x (rightI (comI x y w) w) w _ (rg.up u)) (by kernel_rfl) rfl rfl rfl (by decide) ?_
            rintro u68 w68 ⟨e68, hw68⟩
            have zw68 := hw68.size
            obtain rfl : u68 = .bool false := e68.trans (congrArg Value.bool (decide_eq_false c58))
            refine lsw (want_t (dj := 52) (by rfl) (by kernel_rfl) rfl) (y_pick true rfl rfl rfl) rfl (by decide) ?_
            refine lsw (want_t (dj := 52) (by rfl) (by kernel_rfl) rfl) (y_move rfl rfl) rfl (by decide) ?_
            refine lsk (want_f (dj := 61) (by rfl) (by kernel_rfl) rfl) rfl (by decide) ?_
            refine lsk (want_f (dj := 61) (by rfl) (by kernel_rfl) rfl) rfl (by decide) ?_
            refine lsk (want_f (dj := 61) (by rfl) (by kernel_rfl) rfl) rfl (by decide) ?_
            refine lsk (want_f (dj := 61) (by rfl) (by kernel_rfl) rfl) rfl (by decide) ?_
            refine lsw (want_t (dj := 52) (by rfl) (by kernel_rfl) rfl) (y_pick false rfl rfl rfl) rfl (by decide) ?_
            refine lsw (want_none (by rfl)) (y_pick false rfl rfl rfl) rfl (by decide) ?_
            refine lsw (want_none (by rfl)) (y_assign rfl rfl) rfl (by decide) ?_
            refine lg_nil ?_
            refine nx (E' := [(0, _), (1, _), (2, _), (6, _), (7, _), (8, _), (11, _)]) (fk rfl (fk rfl (fk rfl (fk rfl (fk rfl (fk rfl (fk rfl fn))))))) ?_
            refine cg_seq ?_
            refine cg_region ?_
            refine lsw (want_none (by rfl)) (y_move rfl rfl) rfl (by decide) ?_
            refine lsw (want_none (by rfl)) (y_move rfl rfl) rfl (by decide) ?_
            refine lsw (want_t (dj := 69) (by rfl) (by kernel_rfl) rfl) (y_move rfl rfl) rfl (by decide) ?_
            refine lsw (want_t (dj := 69) (by rfl) (by kernel_rfl) rfl) (y_move rfl rfl) rfl (by decide) ?_
            refine lsw (want_t (dj := 69) (by rfl) (by kernel_rfl) rfl) (y_move rfl rfl) rfl (by decide) ?_
            have u := u.trans (hw68.mono u.size)
            refine lg_callw (want_t (dj := 69) (by rfl) (by kernel_rfl) rfl) (under_any x (comI x y w) w _ (rg.up u)) (by kernel_rfl) rfl rfl rfl (by decide) ?_
            rintro u69 w69 ⟨e69, hw69⟩
            have zw69 := hw69.size
            obtain rfl : u69 = .bool true := e69.trans (congrArg Value.bool (decide_eq_true cf.2.2.1))
            refine lsw (want_none (by rfl)) (y_pick true rfl rfl rfl) rfl (by decide) ?_
            refine lsw (want_none (by rfl)) (y_move rfl rfl) rfl (by decide) ?_
            refine lsw (want_t (dj := 75) (by rfl) (by kernel_rfl) rfl) (y_move rfl rfl) rfl (by decide) ?_
            refine lsw (want_t (dj := 75) (by rfl) (by kernel_rfl) rfl) (y_move rfl rfl) rfl (by decide) ?_
            refine lsw (want_t (dj := 75) (by rfl) (by kernel_rfl) rfl) (y_move rfl rfl) rfl (by decide) ?_
            have u := u.trans (hw69.mono u.size)
            refine lg_callw (want_t (dj := 75) (by rfl) (by kernel_rfl) rfl) (under_any y (comI x y w) w _ (rg.up u)) (by kernel_rfl) rfl rfl rfl (by decide) ?_
            rintro u70 w70 ⟨e70, hw70⟩
            have zw70 := hw70.size
            obtain rfl : u70 = .bool true := e70.trans (congrArg Value.bool (decide_eq_true cf.2.2.2.1))
            refine lsw (want_none (by rfl)) (y_pick true rfl rfl rfl) rfl (by decide) ?_
            refine lsw (want_none (by rfl)) (y_move rfl rfl) rfl (by decide) ?_
            refine lsw (want_t (dj := 81) (by rfl) (by kernel_rfl) rfl) (y_move rfl rfl) rfl (by decide) ?_
            refine lsw (want_t (dj := 81) (by rfl) (by kernel_rfl) rfl) (y_bnot rfl rfl) rfl (by decide) ?_
            refine lsw (want_none (by rfl)) (y_pick true rfl rfl rfl) rfl (by decide) ?_
            refine lsw (want_none (by rfl)) (y_move rfl rfl) rfl (by decide) ?_
            refine lsw (want_t (dj := 85) (by rfl) (by kernel_rfl) rfl) (y_move rfl rfl) rfl (by decide) ?_
            refine lsw (want_t (dj := 85) (by rfl) (by kernel_rfl) rfl) (y_move rfl rfl) rfl (by decide) ?_
            refine lsw (want_t (dj := 85) (by rfl) (by kernel_rfl) rfl) (y_move rfl rfl) rfl (by decide) ?_
            have u := u.trans (hw70.mono u.size)
            refine lg_callw (want_t (dj := 85) (by rfl) (by kernel_rfl) rfl) (common_any y x w _ (rg.up u)) (by kernel_rfl) rfl rfl rfl (by decide) ?_
            rintro _ w71 ⟨rfl, hw71⟩
            have zw71 := hw71.size
            refine lsw (want_t (dj := 85) (by rfl) (by kernel_rfl) rfl) (y_move rfl rfl) rfl (by decide) ?_
            refine lsw (want_t (dj := 85) (by rfl) (by kernel_rfl) rfl) (yb (decide_eq_true cf.2.1) (yi_eql rfl rfl rfl)) rfl (by decide) ?_
            refine lsw (want_none (by rfl)) (y_pick true rfl rfl rfl) rfl (by decide) ?_
            refine lsw (want_none (by rfl)) (y_move rfl rfl) rfl (by decide) ?_
            refine lsw (want_t (dj := 93) (by rfl) (by kernel_rfl) rfl) (y_move rfl rfl) rfl (by decide) ?_
            refine lsw (want_t (dj := 93) (by rfl) (by kernel_rfl) rfl) (y_move rfl rfl) rfl (by decide) ?_
            refine lsw (want_t (dj := 93) (by rfl) (by kernel_rfl) rfl) (y_move rfl rfl) rfl (by decide) ?_
            have u := u.trans (hw71.mono u.size)
            by_cases c72 : undI x y w
            · refine lg_callw (want_t (dj := 93) (by rfl) (by kernel_rfl) rfl) (under_any x y w _ (rg.up u)) (by kernel_rfl) rfl rfl rfl (by decide) ?_
              rintro u73 w73 ⟨e73, hw73⟩
              have zw73 := hw73.size
              obtain rfl : u73 = .bool true := e73.trans (congrArg Value.bool (decide_eq_true c72))
              refine lsw (want_t (dj := 93) (by rfl) (by kernel_rfl) rfl) (y_bnot rfl rfl) rfl (by decide) ?_
              refine lsw (want_t (dj := 93) (by rfl) (by kernel_rfl) rfl) (y_move rfl rfl) rfl (by decide) ?_
              refine lsw (want_t (dj := 99) (by rfl) (by kernel_rfl) rfl) (y_move rfl rfl) rfl (by decide) ?_
              refine lsw (want_t (dj := 99) (by rfl) (by kernel_rfl) rfl) (y_move rfl rfl) rfl (by decide) ?_
              refine lsw (want_t (dj := 99) (by rfl) (by kernel_rfl) rfl) (yb (decide_eq_true (cf.2.2.2.2 c72)) (yi_eql rfl rfl rfl)) rfl (by decide) ?_
              refine lsw (want_t (dj := 93) (by rfl) (by kernel_rfl) rfl) (y_pick false rfl rfl rfl) rfl (by decide) ?_
              refine lsw (want_none (by rfl)) (y_pick true rfl rfl rfl) rfl (by decide) ?_
              refine lsw (want_none (by rfl)) (y_assign rfl rfl) rfl (by decide) ?_
              refine lg_nil ?_
              refine nx (E' := [(6, _)]) (fk rfl fn) ?_
              refine cg_ret ?_
              have u := u.trans (hw73.mono u.size)
              exact eg_ret_tmp rfl rfl ⟨_, rfl, rfl, u⟩
            · refine lg_callw (want_t (dj := 93) (by rfl) (by kernel_rfl) rfl) (under_any x y w _ (rg.up u)) (by kernel_rfl) rfl rfl rfl (by decide) ?_
              rintro u74 w74 ⟨e74, hw74⟩
              have zw74 := hw74.size
              obtain rfl : u74 = .bool false := e74.trans (congrArg Value.bool (decide_eq_false c72))
              refine lsw (want_t (dj := 93) (by rfl) (by kernel_rfl) rfl) (y_bnot rfl rfl) rfl (by decide) ?_
              refine lsw (want_t (dj := 93) (by rfl) (by kernel_rfl) rfl) (y_move rfl rfl) rfl (by decide) ?_
              refine lsk (want_f (dj := 99) (by rfl) (by kernel_rfl) rfl) rfl (by decide) ?_
              refine lsk (want_f (dj := 99) (by rfl) (by kernel_rfl) rfl) rfl (by decide) ?_
              refine lsk (want_f (dj := 99) (by rfl) (by kernel_rfl) rfl) rfl (by decide) ?_
              refine lsw (want_t (dj := 93) (by rfl) (by kernel_rfl) rfl) (y_pick true rfl rfl rfl) rfl (by decide) ?_
              refine lsw (want_none (by rfl)) (y_pick true rfl rfl rfl) rfl (by decide) ?_
              refine lsw (want_none (by rfl)) (y_assign rfl rfl) rfl (by decide) ?_
              refine lg_nil ?_
              refine nx (E' := [(6, _)]) (fk rfl fn) ?_
              refine cg_ret ?_
              have u := u.trans (hw74.mono u.size)
              exact eg_ret_tmp rfl rfl ⟨_, rfl, rfl, u⟩
        · refine lsw (want_t (dj := 52) (by rfl) (by kernel_rfl) rfl) (yb (decide_eq_false c57) (yi_geq rfl rfl rfl)) rfl (by decide) ?_
          refine lsw (want_t (dj := 52) (by rfl) (by kernel_rfl) rfl) (y_move rfl rfl) rfl (by decide) ?_
          refine lsk (want_f (dj := 55) (by rfl) (by kernel_rfl) rfl) rfl (by decide) ?_
          refine lsk (want_f (dj := 55) (by rfl) (by kernel_rfl) rfl) rfl (by decide) ?_
          refine lsk (want_f (dj := 55) (by rfl) (by kernel_rfl) rfl) rfl (by decide) ?_
          refine lsk (want_f (dj := 55) (by rfl) (by kernel_rfl) rfl) rfl (by decide) ?_
          refine lsw (want_t (dj := 52) (by rfl) (by kernel_rfl) rfl) (y_pick false rfl rfl rfl) rfl (by decide) ?_
          refine lsw (want_t (dj := 52) (by rfl) (by kernel_rfl) rfl) (y_move rfl rfl) rfl (by decide) ?_
          refine lsk (want_f (dj := 61) (by rfl) (by kernel_rfl) rfl) rfl (by decide) ?_
          refine lsk (want_f (dj := 61) (by rfl) (by kernel_rfl) rfl) rfl (by decide) ?_
          refine lsk (want_f (dj := 61) (by rfl) (by kernel_rfl) rfl) rfl (by decide) ?_
          refine lsk (want_f (dj := 61) (by rfl) (by kernel_rfl) rfl) rfl (by decide) ?_
          refine lsw (want_t (dj := 52) (by rfl) (by kernel_rfl) rfl) (y_pick false rfl rfl rfl) rfl (by decide) ?_
          refine lsw (want_none (by rfl)) (y_pick false rfl rfl rfl) rfl (by decide) ?_
          refine lsw (want_none (by rfl)) (y_assign rfl rfl) rfl (by decide) ?_
          refine lg_nil ?_
          refine nx (E' := [(0, _), (1, _), (2, _), (6, _), (7, _), (8, _), (11, _)]) (fk rfl (fk rfl (fk rfl (fk rfl (fk rfl (fk rfl (fk rfl fn))))))) ?_
          refine cg_seq ?_
          refine cg_region ?_
          refine lsw (want_none (by rfl)) (y_move rfl rfl) rfl (by decide) ?_
          refine lsw (want_none (by rfl)) (y_move rfl rfl) rfl (by decide) ?_
          refine lsw (want_t (dj := 69) (by rfl) (by kernel_rfl) rfl) (y_move rfl rfl) rfl (by decide) ?_
          refine lsw (want_t (dj := 69) (by rfl) (by kernel_rfl) rfl) (y_move rfl rfl) rfl (by decide) ?_
          refine lsw (want_t (dj := 69) (by rfl) (by kernel_rfl) rfl) (y_move rfl rfl) rfl (by decide) ?_
          refine lg_callw (want_t (dj := 69) (by rfl) (by kernel_rfl) rfl) (under_any x (comI x y w) w _ (rg.up u)) (by kernel_rfl) rfl rfl rfl (by decide) ?_
          rintro u75 w75 ⟨e75, hw75⟩
          have zw75 := hw75.size
          obtain rfl : u75 = .bool true := e75.trans (congrArg Value.bool (decide_eq_true cf.2.2.1))
          refine lsw (want_none (by rfl)) (y_pick true rfl rfl rfl) rfl (by decide) ?_
          refine lsw (want_none (by rfl)) (y_move rfl rfl) rfl (by decide) ?_
          refine lsw (want_t (dj := 75) (by rfl) (by kernel_rfl) rfl) (y_move rfl rfl) rfl (by decide) ?_
          refine lsw (want_t (dj := 75) (by rfl) (by kernel_rfl) rfl) (y_move rfl rfl) rfl (by decide) ?_
          refine lsw (want_t (dj := 75) (by rfl) (by kernel_rfl) rfl) (y_move rfl rfl) rfl (by decide) ?_
          have u := u.trans (hw75.mono u.size)
          refine lg_callw (want_t (dj := 75) (by rfl) (by kernel_rfl) rfl) (under_any y (comI x y w) w _ (rg.up u)) (by kernel_rfl) rfl rfl rfl (by decide) ?_
          rintro u76 w76 ⟨e76, hw76⟩
          have zw76 := hw76.size
          obtain rfl : u76 = .bool true := e76.trans (congrArg Value.bool (decide_eq_true cf.2.2.2.1))
          refine lsw (want_none (by rfl)) (y_pick true rfl rfl rfl) rfl (by decide) ?_
          refine lsw (want_none (by rfl)) (y_move rfl rfl) rfl (by decide) ?_
          refine lsw (want_t (dj := 81) (by rfl) (by kernel_rfl) rfl) (y_move rfl rfl) rfl (by decide) ?_
          refine lsw (want_t (dj := 81) (by rfl) (by kernel_rfl) rfl) (y_bnot rfl rfl) rfl (by decide) ?_
          refine lsw (want_none (by rfl)) (y_pick true rfl rfl rfl) rfl (by decide) ?_
          refine lsw (want_none (by rfl)) (y_move rfl rfl) rfl (by decide) ?_
          refine lsw (want_t (dj := 85) (by rfl) (by kernel_rfl) rfl) (y_move rfl rfl) rfl (by decide) ?_
          refine lsw (want_t (dj := 85) (by rfl) (by kernel_rfl) rfl) (y_move rfl rfl) rfl (by decide) ?_
          refine lsw (want_t (dj := 85) (by rfl) (by kernel_rfl) rfl) (y_move rfl rfl) rfl (by decide) ?_
          have u := u.trans (hw76.mono u.size)
          refine lg_callw (want_t (dj := 85) (by rfl) (by kernel_rfl) rfl) (common_any y x w _ (rg.up u)) (by kernel_rfl) rfl rfl rfl (by decide) ?_
          rintro _ w77 ⟨rfl, hw77⟩
          have zw77 := hw77.size
          refine lsw (want_t (dj := 85) (by rfl) (by kernel_rfl) rfl) (y_move rfl rfl) rfl (by decide) ?_
          refine lsw (want_t (dj := 85) (by rfl) (by kernel_rfl) rfl) (yb (decide_eq_true cf.2.1) (yi_eql rfl rfl rfl)) rfl (by decide) ?_
          refine lsw (want_none (by rfl)) (y_pick true rfl rfl rfl) rfl (by decide) ?_
          refine lsw (want_none (by rfl)) (y_move rfl rfl) rfl (by decide) ?_
          refine lsw (want_t (dj := 93) (by rfl) (by kernel_rfl) rfl) (y_move rfl rfl) rfl (by decide) ?_
          refine lsw (want_t (dj := 93) (by rfl) (by kernel_rfl) rfl) (y_move rfl rfl) rfl (by decide) ?_
          refine lsw (want_t (dj := 93) (by rfl) (by kernel_rfl) rfl) (y_move rfl rfl) rfl (by decide) ?_
          have u := u.trans (hw77.mono u.size)
          by_cases c78 : undI x y w
          · refine lg_callw (want_t (dj := 93) (by rfl) (by kernel_rfl) rfl) (under_any x y w _ (rg.up u)) (by kernel_rfl) rfl rfl rfl (by decide) ?_
            rintro u79 w79 ⟨e79, hw79⟩
            have zw79 := hw79.size
            obtain rfl : u79 = .bool true := e79.trans (congrArg Value.bool (decide_eq_true c78))
            refine lsw (want_t (dj := 93) (by rfl) (by kernel_rfl) rfl) (y_bnot rfl rfl) rfl (by decide) ?_
            refine lsw (want_t (dj := 93) (by rfl) (by kernel_rfl) rfl) (y_move rfl rfl) rfl (by decide) ?_
            refine lsw (want_t (dj := 99) (by rfl) (by kernel_rfl) rfl) (y_move rfl rfl) rfl (by decide) ?_
            refine lsw (want_t (dj := 99) (by rfl) (by kernel_rfl) rfl) (y_move rfl rfl) rfl (by decide) ?_
            refine lsw (want_t (dj := 99) (by rfl) (by kernel_rfl) rfl) (yb (decide_eq_true (cf.2.2.2.2 c78)) (yi_eql rfl rfl rfl)) rfl (by decide) ?_
            refine lsw (want_t (dj := 93) (by rfl) (by kernel_rfl) rfl) (y_pick false rfl rfl rfl) rfl (by decide) ?_
            refine lsw (want_none (by rfl)) (y_pick true rfl rfl rfl) rfl (by decide) ?_
            refine lsw (want_none (by rfl)) (y_assign rfl rfl) rfl (by decide) ?_
            refine lg_nil ?_
            refine nx (E' := [(6, _)]) (fk rfl fn) ?_
            refine cg_ret ?_
            have u := u.trans (hw79.mono u.size)
            exact eg_ret_tmp rfl rfl ⟨_, rfl, rfl, u⟩
          · refine lg_callw (want_t (dj := 93) (by rfl) (by kernel_rfl) rfl) (under_any x y w _ (rg.up u)) (by kernel_rfl) rfl rfl rfl (by decide) ?_
            rintro u80 w80 ⟨e80, hw80⟩
            have zw80 := hw80.size
            obtain rfl : u80 = .bool false := e80.trans (congrArg Value.bool (decide_eq_false c78))
            refine lsw (want_t (dj := 93) (by rfl) (by kernel_rfl) rfl) (y_bnot rfl rfl) rfl (by decide) ?_
            refine lsw (want_t (dj := 93) (by rfl) (by kernel_rfl) rfl) (y_move rfl rfl) rfl (by decide) ?_
            refine lsk (want_f (dj := 99) (by rfl) (by kernel_rfl) rfl) rfl (by decide) ?_
            refine lsk (want_f (dj := 99) (by rfl) (by kernel_rfl) rfl) rfl (by decide) ?_
            refine lsk (want_f (dj := 99) (by rfl) (by kernel_rfl) rfl) rfl (by decide) ?_
            refine lsw (want_t (dj := 93) (by rfl) (by kernel_rfl) rfl) (y_pick true rfl rfl rfl) rfl (by decide) ?_
            refine lsw (want_none (by rfl)) (y_pick true rfl rfl rfl) rfl (by decide) ?_
            refine lsw (want_none (by rfl)) (y_assign rfl rfl) rfl (by decide) ?_
            refine lg_nil ?_
            refine nx (E' := [(6, _)]) (fk rfl fn) ?_
            refine cg_ret ?_
            have u := u.trans (hw80.mono u.size)
            exact eg_ret_tmp rfl rfl ⟨_, rfl, rfl, u⟩
    · refine calls_cg (n := 105) Tryd.func5 rfl Tryd.ntmps5 (by simp) ?_
      show CG _ _ _ [(0, nv x), (1, nv y), (2, nv w)] _ _
      have u := Below.refl W.heap.size W
      refine cg_seq ?_
      refine cg_region ?_
      refine lsw (want_none (by rfl)) (y_assign rfl rfl) rfl (by decide) ?_
      refine lg_nil ?_
      refine nx (E' := [(0, _), (1, _), (2, _), (6, _)]) (fk rfl (fk rfl (fk rfl (fk rfl fn)))) ?_
      refine cg_seq ?_
      refine cg_region ?_
      refine lg_callw (want_none (by rfl)) (wawake_any _ (rg.up u)) (by kernel_rfl) rfl rfl rfl (by decide) ?_
      rintro _ w1 ⟨rfl, hw1⟩
      have zw1 := hw1.size
      refine lsw (want_none (by rfl)) (y_assign rfl rfl) rfl (by decide) ?_
      refine lg_nil ?_
      refine nx (E' := [(0, _), (1, _), (2, _), (6, _), (7, _)]) (fk rfl (fk rfl (fk rfl (fk rfl (fk rfl fn))))) ?_
      refine cg_seq ?_
      refine cg_region ?_
      refine lsw (want_none (by rfl)) (y_move rfl rfl) rfl (by decide) ?_
      refine lsw (want_none (by rfl)) (y_move rfl rfl) rfl (by decide) ?_
      refine lsw (want_none (by rfl)) (y_move rfl rfl) rfl (by decide) ?_
      have u := u.trans (hw1.mono u.size)
      refine lg_callw (want_none (by rfl)) (common_any x y w _ (rg.up u)) (by kernel_rfl) rfl rfl rfl (by decide) ?_
      rintro _ w2 ⟨rfl, hw2⟩
      have zw2 := hw2.size
      refine lsw (want_none (by rfl)) (y_assign rfl rfl) rfl (by decide) ?_
      refine lg_nil ?_
      refine nx (E' := [(0, _), (1, _), (2, _), (6, _), (7, _), (8, _)]) (fk rfl (fk rfl (fk rfl (fk rfl (fk rfl (fk rfl fn)))))) ?_
      refine cg_seq ?_
      refine cg_seq ?_
      refine cg_region ?_
      refine lsw (want_none (by rfl)) (y_move rfl rfl) rfl (by decide) ?_
      refine lsw (want_none (by rfl)) (y_move rfl rfl) rfl (by decide) ?_
      have u := u.trans (hw2.mono u.size)
      refine lsw (want_none (by rfl)) (yb (decide_eq_true hx) (y_call (is_any x w _ (rg.up u)) (by kernel_rfl) rfl rfl)) rfl (by decide) ?_
      refine lsw (want_none (by rfl)) (y_bnot rfl rfl) rfl (by decide) ?_
      refine lsw (want_none (by rfl)) (y_move rfl rfl) rfl (by decide) ?_
      refine lsw (want_t (dj := 21) (by rfl) (by kernel_rfl) rfl) (y_move rfl rfl) rfl (by decide) ?_
      refine lsw (want_t (dj := 21) (by rfl) (by kernel_rfl) rfl) (y_move rfl rfl) rfl (by decide) ?_
      refine lsw (want_t (dj := 21) (by rfl) (by kernel_rfl) rfl) (yb (decide_eq_false hy) (y_call (is_any y w _ (rg.up u)) (by kernel_rfl) rfl rfl)) rfl (by decide) ?_
      refine lsw (want_t (dj := 21) (by rfl) (by kernel_rfl) rfl) (y_bnot rfl rfl) rfl (by decide) ?_
      refine lsw (want_none (by rfl)) (y_pick false rfl rfl rfl) rfl (by decide) ?_
      refine lg_nil ?_
      refine nx (E' := [(0, _), (1, _), (2, _), (6, _), (7, _), (8, _), (26, _)]) (fk rfl (fk rfl (fk rfl (fk rfl (fk rfl (fk rfl (fk rfl fn))))))) ?_
      refine cg_ct rfl ?_
      refine cg_seq ?_
      refine cg_region ?_
      refine lsw (want_none (by rfl)) (y_move rfl rfl) rfl (by decide) ?_
      refine lsw (want_none (by rfl)) (y_move rfl rfl) rfl (by decide) ?_
      refine lsw (want_t (dj := 28) (by rfl) (by kernel_rfl) rfl) (y_move rfl rfl) rfl (by decide) ?_
      refine lsw (want_t (dj := 28) (by rfl) (by kernel_rfl) rfl) (yb (decide_eq_true (com_no fun q => hy q.2)) (yi_eql rfl rfl rfl)) rfl (by decide) ?_
      refine lsw (want_none (by rfl)) (y_pick true rfl rfl rfl) rfl (by decide) ?_
      refine lsw (want_none (by rfl)) (y_assign rfl rfl) rfl (by decide) ?_
      refine lg_nil ?_
      refine nx (E' := [(0, _), (1, _), (2, _), (7, _), (8, _), (6, _)]) (fk rfl (fk rfl (fk rfl (fk rfl (fk rfl (fk rfl fn)))))) ?_
      refine cg_ret ?_
      refine eg_seq_ret ?_
      exact eg_ret_tmp rfl rfl ⟨_, rfl, rfl, u⟩
  · refine calls_cg (n := 105) Tryd.func5 rfl Tryd.ntmps5 (by simp) ?_
    show CG _ _ _ [(0, nv x), (1, nv y), (2, nv w)] _ _
    have u := Below.refl W.heap.size W
    refine cg_seq ?_
    refine cg_region ?_
    refine lsw (want_none (by rfl)) (y_assign rfl rfl) rfl (by decide) ?_
    refine lg_nil ?_
    refine nx (E' := [(0, _), (1, _), (2, _), (6, _)]) (fk rfl (fk rfl (fk rfl (fk rfl fn)))) ?_
    refine cg_seq ?_
    refine cg_region ?_
    refine lg_callw (want_none (by rfl)) (wawake_any _ (rg.up u)) (by kernel_rfl) rfl rfl rfl (by decide) ?_
    rintro _ w1 ⟨rfl, hw1⟩
    have zw1 := hw1.size
    refine lsw (want_none (by rfl)) (y_assign rfl rfl) rfl (by decide) ?_
    refine lg_nil ?_
    refine nx (E' := [(0, _), (1, _), (2, _), (6, _), (7, _)]) (fk rfl (fk rfl (fk rfl (fk rfl (fk rfl fn))))) ?_
    refine cg_seq ?_
    refine cg_region ?_
    refine lsw (want_none (by rfl)) (y_move rfl rfl) rfl (by decide) ?_
    refine lsw (want_none (by rfl)) (y_move rfl rfl) rfl (by decide) ?_
    refine lsw (want_none (by rfl)) (y_move rfl rfl) rfl (by decide) ?_
    have u := u.trans (hw1.mono u.size)
    refine lg_callw (want_none (by rfl)) (common_any x y w _ (rg.up u)) (by kernel_rfl) rfl rfl rfl (by decide) ?_
    rintro _ w2 ⟨rfl, hw2⟩
    have zw2 := hw2.size
    refine lsw (want_none (by rfl)) (y_assign rfl rfl) rfl (by decide) ?_
    refine lg_nil ?_
    refine nx (E' := [(0, _), (1, _), (2, _), (6, _), (7, _), (8, _)]) (fk rfl (fk rfl (fk rfl (fk rfl (fk rfl (fk rfl fn)))))) ?_
    refine cg_seq ?_
    refine cg_seq ?_
    refine cg_region ?_
    refine lsw (want_none (by rfl)) (y_move rfl rfl) rfl (by decide) ?_
    refine lsw (want_none (by rfl)) (y_move rfl rfl) rfl (by decide) ?_
    have u := u.trans (hw2.mono u.size)
    refine lsw (want_none (by rfl)) (yb (decide_eq_false hx) (y_call (is_any x w _ (rg.up u)) (by kernel_rfl) rfl rfl)) rfl (by decide) ?_
    refine lsw (want_none (by rfl)) (y_bnot rfl rfl) rfl (by decide) ?_
    refine lsw (want_none (by rfl)) (y_move rfl rfl) rfl (by decide) ?_
    refine lsk (want_f (dj := 21) (by rfl) (by kernel_rfl) rfl) rfl (by decide) ?_
    refine lsk (want_f (dj := 21) (by rfl) (by kernel_rfl) rfl) rfl (by decide) ?_
    refine lsk (want_f (dj := 21) (by rfl) (by kernel_rfl) rfl) rfl (by decide) ?_
    refine lsk (want_f (dj := 21) (by rfl) (by kernel_rfl) rfl) rfl (by decide) ?_
    refine lsw (want_none (by rfl)) (y_pick true rfl rfl rfl) rfl (by decide) ?_
    refine lg_nil ?_
    refine nx (E' := [(0, _), (1, _), (2, _), (6, _), (7, _), (8, _), (26, _)]) (fk rfl (fk rfl (fk rfl (fk rfl (fk rfl (fk rfl (fk rfl fn))))))) ?_
    refine cg_ct rfl ?_
    refine cg_seq ?_
    refine cg_region ?_
    refine lsw (want_none (by rfl)) (y_move rfl rfl) rfl (by decide) ?_
    refine lsw (want_none (by rfl)) (y_move rfl rfl) rfl (by decide) ?_
    refine lsw (want_t (dj := 28) (by rfl) (by kernel_rfl) rfl) (y_move rfl rfl) rfl (by decide) ?_
    refine lsw (want_t (dj := 28) (by rfl) (by kernel_rfl) rfl) (yb (decide_eq_true (com_no fun q => hx q.1)) (yi_eql rfl rfl rfl)) rfl (by decide) ?_
    refine lsw (want_none (by rfl)) (y_pick true rfl rfl rfl) rfl (by decide) ?_
    refine lsw (want_none (by rfl)) (y_assign rfl rfl) rfl (by decide) ?_
    refine lg_nil ?_
    refine nx (E' := [(0, _), (1, _), (2, _), (7, _), (8, _), (6, _)]) (fk rfl (fk rfl (fk rfl (fk rfl (fk rfl (fk rfl fn)))))) ?_
    refine cg_ret ?_
    refine eg_seq_ret ?_
    exact eg_ret_tmp rfl rfl ⟨_, rfl, rfl, u⟩
end Go.Proofs.YtgcneppjdhnacaaDoor
