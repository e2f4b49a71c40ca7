/-
  A greater tree tells the same below.
-/
import Derived.Test.YtjcnfmmekpiliaaDoorRsAwake
namespace Go.Proofs.YtjcnfmmekpiliaaDoor
open Go.ChangeShapes Go.WideShapes Go.ChangeAt Go.RowKit
set_option linter.unusedVariables false

set_option maxHeartbeats 4000000 in
theorem resolveGrows_any {W : World} {s : SlV} {Ls : List Nd} (h : RwNd W W.heap.size s Ls) (x : Int) (rg : Tb W) : Calls Tryd.prog 8 #[s.v, nv x] W fun e W' => ∃ v, e = .returned v ∧ v = .bool true ∧ Below W.heap.size W W' := by
  refine calls_cg (n := 80) Tryd.func8 rfl Tryd.ntmps8 (by simp) ?_
  show CG _ _ _ [(0, s.v), (1, nv x)] _ _
  have u := Below.refl W.heap.size W
  have q1 := h.len
  have q2 := h.cap
  refine cg_seq ?_
  refine cg_region ?_
  refine zA rfl rfl rfl rfl rfl ?_
  refine lg_nil ?_
  refine nx (zk3 0 1 4 rfl rfl rfl fn) ?_
  refine cg_seq ?_
  refine cg_region ?_
  refine lg_callw (want_none (by rfl)) (awakeR_any _ (rg.up u)) (by kernel_rfl) rfl rfl rfl (by decide) ?_
  rintro _ w1 ⟨rfl, hw1⟩
  have zw1 := hw1.size
  refine zA rfl rfl rfl rfl rfl ?_
  refine lg_nil ?_
  refine nx (zk3 0 1 4 rfl rfl rfl (zk1 5 rfl fn)) ?_
  refine cg_seq ?_
  refine cg_seq ?_
  refine cg_region ?_
  refine zM rfl rfl rfl rfl rfl ?_
  have h := h.below (hw1.mono (by omega))
  by_cases c2 : trFew Ls
  · refine lg_callw (want_none (by rfl)) (fewR_any (h.more (B' := w1.heap.size) (by omega)) (Nat.le_refl _)) (by kernel_rfl) rfl rfl rfl (by decide) ?_
    rintro u3 w3 ⟨e3, hw3⟩
    have zw3 := hw3.size
    obtain rfl : u3 = .bool true := e3.trans (congrArg Value.bool (decide_eq_true c2))
    refine za rfl (y_bnot rfl rfl) rfl rfl ?_
    refine zM rfl rfl rfl rfl rfl ?_
    refine zt 12 rfl (by kernel_rfl) rfl (y_move rfl rfl) rfl rfl ?_
    have h := h.below (hw3.mono (by omega))
    by_cases c4 : trIs Ls
    · have htr := c4
      have htl := trIs_le htr
      have hta := trAs_ok htr
      refine lg_callw (want_t (dj := 12) (by rfl) (by kernel_rfl) rfl) (sane_any (h.more (B' := w3.heap.size) (by omega)) (Nat.le_refl _)) (by kernel_rfl) rfl rfl rfl (by decide) ?_
      rintro u5 w5 ⟨e5, hw5⟩
      have zw5 := hw5.size
      obtain rfl : u5 = .bool true := e5.trans (congrArg Value.bool (decide_eq_true c4))
      refine zt 12 rfl (by kernel_rfl) rfl (y_bnot rfl rfl) rfl rfl ?_
      refine za rfl (y_pick false rfl rfl rfl) rfl rfl ?_
      refine zM rfl rfl rfl rfl rfl ?_
      refine zt 17 rfl (by kernel_rfl) rfl (y_move rfl rfl) rfl rfl ?_
      by_cases c6 : x < 0
      · refine zt 17 rfl (by kernel_rfl) rfl (yb (decide_eq_true c6) (yi_lss rfl rfl rfl)) rfl rfl ?_
        refine za rfl (y_pick false rfl rfl rfl) rfl rfl ?_
        refine zM rfl rfl rfl rfl rfl ?_
        refine zf 21 rfl (by kernel_rfl) rfl rfl rfl ?_
        refine zf 21 rfl (by kernel_rfl) rfl rfl rfl ?_
        refine zf 21 rfl (by kernel_rfl) rfl rfl rfl ?_
        refine zf 21 rfl (by kernel_rfl) rfl rfl rfl ?_
        refine za rfl (y_pick true rfl rfl rfl) rfl rfl ?_
        refine lg_nil ?_
        refine nx (zk5 0 1 4 5 26 rfl rfl rfl rfl rfl fn) ?_
        refine cg_ct rfl ?_
        refine cg_seq ?_
        refine cg_region ?_
        refine zM rfl rfl rfl rfl rfl ?_
        refine zA rfl rfl rfl rfl rfl ?_
        refine lg_nil ?_
        refine nx (zk3 0 1 5 rfl rfl rfl (zk1 4 rfl fn)) ?_
        refine cg_ret ?_
        refine eg_seq_ret ?_
        have u := u.trans (hw1.mono u.size)
        have u := u.trans (hw3.mono u.size)
        have u := u.trans (hw5.mono u.size)
        exact eg_ret_tmp rfl rfl ⟨_, rfl, rfl, u⟩
      · refine zt 17 rfl (by kernel_rfl) rfl (yb (decide_eq_false c6) (yi_lss rfl rfl rfl)) rfl rfl ?_
        refine za rfl (y_pick false rfl rfl rfl) rfl rfl ?_
        refine zM rfl rfl rfl rfl rfl ?_
        refine zt 21 rfl (by kernel_rfl) rfl (y_move rfl rfl) rfl rfl ?_
        refine zt 21 rfl (by kernel_rfl) rfl (y_move rfl rfl) rfl rfl ?_
        have h := h.below (hw5.mono (by omega))
        refine zt 21 rfl (by kernel_rfl) rfl (y_lenM (el := 36) h.len (by kernel_rfl) rfl rfl) rfl rfl ?_
        by_cases c7 : (Ls.length : Int) ≤ x
        · refine zt 21 rfl (by kernel_rfl) rfl (yb (decide_eq_true c7) (yi_geq rfl rfl rfl)) rfl rfl ?_
          refine za rfl (y_pick false rfl rfl rfl) rfl rfl ?_
          refine lg_nil ?_
          refine nx (zk5 0 1 4 5 26 rfl rfl rfl rfl rfl fn) ?_
          refine cg_ct rfl ?_
          refine cg_seq ?_
          refine cg_region ?_
          refine zM rfl rfl rfl rfl rfl ?_
          refine zA rfl rfl rfl rfl rfl ?_
          refine lg_nil ?_
          refine nx (zk3 0 1 5 rfl rfl rfl (zk1 4 rfl fn)) ?_
          refine cg_ret ?_
          refine eg_seq_ret ?_
          have u := u.trans (hw1.mono u.size)
          have u := u.trans (hw3.mono u.size)
          have u := u.trans (hw5.mono u.size)
          exact eg_ret_tmp rfl rfl ⟨_, rfl, rfl, u⟩
        · refine zt 21 rfl (by kernel_rfl) rfl (yb (decide_eq_false c7) (yi_geq rfl rfl rfl)) rfl rfl ?_
          refine za rfl (y_pick false rfl rfl rfl) rfl rfl ?_
          refine lg_nil ?_
          refine nx (zk5 0 1 4 5 26 rfl rfl rfl rfl rfl fn) ?_
          refine cg_cf rfl ?_
          refine cg_skip ?_
          refine nx (zk3 0 1 4 rfl rfl rfl (zk1 5 rfl fn)) ?_
          refine cg_seq ?_
          refine cg_region ?_
          refine zM rfl rfl rfl rfl rfl ?_
          refine lg_callw (want_none (by rfl)) (grow_any (h.more (B' := w5.heap.size) (by omega)) (Nat.le_refl _)) (by kernel_rfl) rfl rfl rfl (by decide) ?_
          rintro _ w8 ⟨s8, rfl, m8, hw8⟩
          have zw8 := hw8.size
          refine zM rfl rfl rfl rfl rfl ?_
          refine za rfl (y_extract rfl rfl rfl) rfl rfl ?_
          refine za rfl (y_extract rfl rfl rfl) rfl rfl ?_
          refine zA rfl rfl rfl rfl rfl ?_
          refine zA rfl rfl rfl rfl rfl ?_
          refine lg_nil ?_
          refine nx (zk5 0 1 4 5 6 rfl rfl rfl rfl rfl (zk1 7 rfl fn)) ?_
          refine cg_seq ?_
          refine cg_seq ?_
          refine cg_region ?_
          refine zM rfl rfl rfl rfl rfl ?_
          by_cases c9 : (growE Ls) = 0
          · obtain ⟨gl, gw, ga⟩ := grown htr c9
            have hx := isN_of htr (x := x) (by omega) (by omega)
            have hx2 := isN_of htr (x := 2 * (x / 2)) (by omega) (by omega)
            have hx0 := isN_of htr (x := 0) (by omega) (by omega)
            refine za rfl (yb (nd_f c9) (yi_neq rfl rfl rfl)) rfl rfl ?_
            refine lg_nil ?_
            refine nx (zk5 0 1 4 5 6 rfl rfl rfl rfl rfl (zk1 34 rfl fn)) ?_
            refine cg_cf rfl ?_
            refine cg_skip ?_
            refine nx (zk5 0 1 4 5 6 rfl rfl rfl rfl rfl fn) ?_
            refine cg_seq ?_
            refine cg_region ?_
            refine zM rfl rfl rfl rfl rfl ?_
            refine zM rfl rfl rfl rfl rfl ?_
            refine zt 37 rfl (by kernel_rfl) rfl (y_move rfl rfl) rfl rfl ?_
            refine zt 37 rfl (by kernel_rfl) rfl (y_move rfl rfl) rfl rfl ?_
            have u := u.trans (hw1.mono u.size)
            have u := u.trans (hw3.mono u.size)
            have u := u.trans (hw5.mono u.size)
            have u := u.trans (hw8.mono u.size)
            refine lg_callw (want_t (dj := 37) (by rfl) (by kernel_rfl) rfl) (resolve_any (m8.more (B' := w8.heap.size) (by omega)) x (Nat.le_refl _) (rg.up u)) (by kernel_rfl) rfl rfl rfl (by decide) ?_
            rintro _ w10 ⟨s10, rfl, m10, hw10⟩
            have zw10 := hw10.size
            have rl10 := res_len (trAs_is (growL Ls)) x
            refine zt 37 rfl (by kernel_rfl) rfl (y_move rfl rfl) rfl rfl ?_
            refine zt 37 rfl (by kernel_rfl) rfl (y_move rfl rfl) rfl rfl ?_
            have h := h.below (hw8.mono (by omega))
            have h := h.below (hw10.mono (by omega))
            have u := u.trans (hw10.mono u.size)
            refine lg_callw (want_t (dj := 37) (by rfl) (by kernel_rfl) rfl) (resolve_any (h.more (B' := w10.heap.size) (by omega)) x (Nat.le_refl _) (rg.up u)) (by kernel_rfl) rfl rfl rfl (by decide) ?_
            rintro _ w11 ⟨s11, rfl, m11, hw11⟩
            have zw11 := hw11.size
            have rl11 := res_len (trAs_is Ls) x
            rw [trAs_ok htr] at m11 rl11
            have m10 := m10.below (hw11.mono (by omega))
            refine lg_callw (want_t (dj := 37) (by rfl) (by kernel_rfl) rfl) (ints_S m10 m11 (by omega) (by omega)) (by kernel_rfl) rfl rfl rfl (by decide) ?_
            rintro u12 w12 ⟨e12, hw12⟩
            have zw12 := hw12.size
            obtain rfl : u12 = .bool true := e12.trans (congrArg Value.bool (decide_eq_true (show (resL (trAs (growL Ls)) x) = (resL Ls x) from (by rw [trAs_ok (trIs_growL Ls)]; exact res_grown gl gw ga hx))))
            refine za rfl (y_pick true rfl rfl rfl) rfl rfl ?_
            refine zM rfl rfl rfl rfl rfl ?_
            refine zt 46 rfl (by kernel_rfl) rfl (y_move rfl rfl) rfl rfl ?_
            refine zt 46 rfl (by kernel_rfl) rfl (y_move rfl rfl) rfl rfl ?_
            refine zt 46 rfl (by kernel_rfl) rfl (yi_quo rfl rfl rfl (by omega) (by omega) (by omega)) rfl rfl ?_
            have m8 := m8.below (hw10.mono (by omega))
            have m8 := m8.below (hw11.mono (by omega))
            have m8 := m8.below (hw12.mono (by omega))
            have u := u.trans (hw11.mono u.size)
            have u := u.trans (hw12.mono u.size)
            refine lg_callw (want_t (dj := 46) (by rfl) (by kernel_rfl) rfl) (filter_any (m8.more (B' := w12.heap.size) (by omega)) (x / 2) (Nat.le_refl _) (rg.up u)) (by kernel_rfl) rfl rfl rfl (by decide) ?_
            rintro _ w13 ⟨s13, rfl, m13, hw13⟩
            have zw13 := hw13.size
            have fl13 : ((forkL (trAs (growL Ls)) (x / 2)).map Prod.fst).length ≤ 6 := by rw [List.length_map]; exact fork_len _ _
            refine zt 46 rfl (by kernel_rfl) rfl (y_move rfl rfl) rfl rfl ?_
            refine zt 46 rfl (by kernel_rfl) rfl (y_move rfl rfl) rfl rfl ?_
            refine zt 46 rfl (by kernel_rfl) rfl (yi_quo rfl rfl rfl (by omega) (by omega) (by omega)) rfl rfl ?_
            have h := h.below (hw11.mono (by omega))
            have h := h.below (hw12.mono (by omega))
            have h := h.below (hw13.mono (by omega))
            have u := u.trans (hw13.mono u.size)
            refine lg_callw (want_t (dj := 46) (by rfl) (by kernel_rfl) rfl) (filter_any (h.more (B' := w13.heap.size) (by omega)) (x / 2) (Nat.le_refl _) (rg.up u)) (by kernel_rfl) rfl rfl rfl (by decide) ?_
            rintro _ w14 ⟨s14, rfl, m14, hw14⟩
            have zw14 := hw14.size
            have fl14 : ((forkL (trAs Ls) (x / 2)).map Prod.fst).length ≤ 6 := by rw [List.length_map]; exact fork_len _ _
            have m13 := m13.below (hw14.mono (by omega))
            refine lg_callw (want_t (dj := 46) (by rfl) (by kernel_rfl) rfl) (ints_S m13 m14 (by omega) (by omega)) (by kernel_rfl) rfl rfl rfl (by decide) ?_
            rintro u15 w15 ⟨e15, hw15⟩
            have zw15 := hw15.size
            obtain rfl : u15 = .bool true := e15.trans (congrArg Value.bool (decide_eq_true (show ((forkL (trAs (growL Ls)) (x / 2)).map Prod.fst) = ((forkL (trAs Ls) (x / 2)).map Prod.fst) from (by rw [trAs_ok (trIs_growL Ls), hta, fork_grown gl gw ga htr (trIs_growL Ls) hx2]))))
            refine za rfl (y_pick true rfl rfl rfl) rfl rfl ?_
            refine zM rfl rfl rfl rfl rfl ?_
            refine zt 57 rfl (by kernel_rfl) rfl (y_move rfl rfl) rfl rfl ?_
            refine zt 57 rfl (by kernel_rfl) rfl (y_move rfl rfl) rfl rfl ?_
            refine zt 57 rfl (by kernel_rfl) rfl (yi_quo rfl rfl rfl (by omega) (by omega) (by omega)) rfl rfl ?_
            have m8 := m8.below (hw13.mono (by omega))
            have m8 := m8.below (hw14.mono (by omega))
            have m8 := m8.below (hw15.mono (by omega))
            have u := u.trans (hw14.mono u.size)
            have u := u.trans (hw15.mono u.size)
            refine lg_callw (want_t (dj := 57) (by rfl) (by kernel_rfl) rfl) (beside_any (m8.more (B' := w15.heap.size) (by omega)) (x / 2) (Nat.le_refl _) (rg.up u)) (by kernel_rfl) rfl rfl rfl (by decide) ?_
            rintro _ w16 ⟨s16, rfl, m16, hw16⟩
            have zw16 := hw16.size
            have fl16 : ((forkL (trAs (growL Ls)) (x / 2)).map Prod.snd).length ≤ 6 := by rw [List.length_map]; exact fork_len _ _
            refine zt 57 rfl (by kernel_rfl) rfl (y_move rfl rfl) rfl rfl ?_
            refine zt 57 rfl (by kernel_rfl) rfl (y_move rfl rfl) rfl rfl ?_
            refine zt 57 rfl (by kernel_rfl) rfl (yi_quo rfl rfl rfl (by omega) (by omega) (by omega)) rfl rfl ?_
            have h := h.below (hw14.mono (by omega))
            have h := h.below (hw15.mono (by omega))
            have h := h.below (hw16.mono (by omega))
            have u := u.trans (hw16.mono u.size)
            refine lg_callw (want_t (dj := 57) (by rfl) (by kernel_rfl) rfl) (beside_any (h.more (B' := w16.heap.size) (by omega)) (x / 2) (Nat.le_refl _) (rg.up u)) (by kernel_rfl) rfl rfl rfl (by decide) ?_
            rintro _ w17 ⟨s17, rfl, m17, hw17⟩
            have zw17 := hw17.size
            have fl17 : ((forkL (trAs Ls) (x / 2)).map Prod.snd).length ≤ 6 := by rw [List.length_map]; exact fork_len _ _
            have m16 := m16.below (hw17.mono (by omega))
            refine lg_callw (want_t (dj := 57) (by rfl) (by kernel_rfl) rfl) (ints_S m16 m17 (by omega) (by omega)) (by kernel_rfl) rfl rfl rfl (by decide) ?_
            rintro u18 w18 ⟨e18, hw18⟩
            have zw18 := hw18.size
            obtain rfl : u18 = .bool true := e18.trans (congrArg Value.bool (decide_eq_true (show ((forkL (trAs (growL Ls)) (x / 2)).map Prod.snd) = ((forkL (trAs Ls) (x / 2)).map Prod.snd) from (by rw [trAs_ok (trIs_growL Ls), hta, fork_grown gl gw ga htr (trIs_growL Ls) hx2]))))
            refine za rfl (y_pick true rfl rfl rfl) rfl rfl ?_
            refine zM rfl rfl rfl rfl rfl ?_
            refine zt 68 rfl (by kernel_rfl) rfl (y_move rfl rfl) rfl rfl ?_
            refine zt 68 rfl (by kernel_rfl) rfl (y_move rfl rfl) rfl rfl ?_
            have h := h.below (hw17.mono (by omega))
            have h := h.below (hw18.mono (by omega))
            refine zt 68 rfl (by kernel_rfl) rfl (y_lenM (el := 36) h.len (by kernel_rfl) rfl rfl) rfl rfl ?_
            have m8 := m8.below (hw16.mono (by omega))
            have m8 := m8.below (hw17.mono (by omega))
            have m8 := m8.below (hw18.mono (by omega))
            have u := u.trans (hw17.mono u.size)
            have u := u.trans (hw18.mono u.size)
            refine lg_callw (want_t (dj := 68) (by rfl) (by kernel_rfl) rfl) (resolve_any (m8.more (B' := w18.heap.size) (by omega)) (Ls.length : Int) (Nat.le_refl _) (rg.up u)) (by kernel_rfl) rfl rfl rfl (by decide) ?_
            rintro _ w19 ⟨s19, rfl, m19, hw19⟩
            have zw19 := hw19.size
            have rl19 := res_len (trAs_is (growL Ls)) (Ls.length : Int)
            refine zt 68 rfl (by kernel_rfl) rfl (y_move rfl rfl) rfl rfl ?_
            refine zt 68 rfl (by kernel_rfl) rfl (y_move rfl rfl) rfl rfl ?_
            have h := h.below (hw19.mono (by omega))
            refine zt 68 rfl (by kernel_rfl) rfl (y_lenM (el := 36) h.len (by kernel_rfl) rfl rfl) rfl rfl ?_
            refine zt 68 rfl (by kernel_rfl) rfl (yi_quo rfl rfl rfl (by omega) (by omega) (by omega)) rfl rfl ?_
            have u := u.trans (hw19.mono u.size)
            refine lg_callw (want_t (dj := 68) (by rfl) (by kernel_rfl) rfl) (resolve_any (h.more (B' := w19.heap.size) (by omega)) ((Ls.length : Int) / 2) (Nat.le_refl _) (rg.up u)) (by kernel_rfl) rfl rfl rfl (by decide) ?_
            rintro _ w20 ⟨s20, rfl, m20, hw20⟩
            have zw20 := hw20.size
            have rl20 := res_len (trAs_is Ls) ((Ls.length : Int) / 2)
            rw [trAs_ok htr] at m20 rl20
            have m19 := m19.below (hw20.mono (by omega))
            refine lg_callw (want_t (dj := 68) (by rfl) (by kernel_rfl) rfl) (ints_S m19 m20 (by omega) (by omega)) (by kernel_rfl) rfl rfl rfl (by decide) ?_
            rintro u21 w21 ⟨e21, hw21⟩
            have zw21 := hw21.size
            obtain rfl : u21 = .bool true := e21.trans (congrArg Value.bool (decide_eq_true (show (resL (trAs (growL Ls)) (Ls.length : Int)) = (resL Ls ((Ls.length : Int) / 2)) from (by rw [trAs_ok (trIs_growL Ls)]; exact res_top gl gw ga hx0))))
            refine za rfl (y_pick true rfl rfl rfl) rfl rfl ?_
            refine zA rfl rfl rfl rfl rfl ?_
            refine lg_nil ?_
            refine nx (zk1 4 rfl fn) ?_
            refine cg_ret ?_
            have u := u.trans (hw20.mono u.size)
            have u := u.trans (hw21.mono u.size)
            exact eg_ret_tmp rfl rfl ⟨_, rfl, rfl, u⟩
          · refine za rfl (yb (nd_t c9) (yi_neq rfl rfl rfl)) rfl rfl ?_
            refine lg_nil ?_
            refine nx (zk5 0 1 4 5 6 rfl rfl rfl rfl rfl (zk1 34 rfl fn)) ?_
            refine cg_ct rfl ?_
            refine cg_seq ?_
            refine cg_region ?_
            refine zM rfl rfl rfl rfl rfl ?_
            refine zA rfl rfl rfl rfl rfl ?_
            refine lg_nil ?_
            refine nx (zk5 0 1 5 6 4 rfl rfl rfl rfl rfl fn) ?_
            refine cg_ret ?_
            refine eg_seq_ret ?_
            have u := u.trans (hw1.mono u.size)
            have u := u.trans (hw3.mono u.size)
            have u := u.trans (hw5.mono u.size)
            have u := u.trans (hw8.mono u.size)
            exact eg_ret_tmp rfl rfl ⟨_, rfl, rfl, u⟩
    · refine lg_callw (want_t (dj := 12) (by rfl) (by kernel_rfl) rfl) (sane_any (h.more (B' := w3.heap.size) (by omega)) (Nat.le_refl _)) (by kernel_rfl) rfl rfl rfl (by decide) ?_
      rintro u22 w22 ⟨e22, hw22⟩
      have zw22 := hw22.size
      obtain rfl : u22 = .bool false := e22.trans (congrArg Value.bool (decide_eq_false c4))
      refine zt 12 rfl (by kernel_rfl) rfl (y_bnot rfl rfl) rfl rfl ?_
      refine za rfl (y_pick false rfl rfl rfl) rfl rfl ?_
      refine zM rfl rfl rfl rfl rfl ?_
      refine zf 17 rfl (by kernel_rfl) rfl rfl rfl ?_
      refine zf 17 rfl (by kernel_rfl) rfl rfl rfl ?_
      refine za rfl (y_pick true rfl rfl rfl) rfl rfl ?_
      refine zM rfl rfl rfl rfl rfl ?_
      refine zf 21 rfl (by kernel_rfl) rfl rfl rfl ?_
      refine zf 21 rfl (by kernel_rfl) rfl rfl rfl ?_
      refine zf 21 rfl (by kernel_rfl) rfl rfl rfl ?_
      refine zf 21 rfl (by kernel_rfl) rfl rfl rfl ?_
      refine za rfl (y_pick true rfl rfl rfl) rfl rfl ?_
      refine lg_nil ?_
      refine nx (zk5 0 1 4 5 26 rfl rfl rfl rfl rfl fn) ?_
      refine cg_ct rfl ?_
      refine cg_seq ?_
      refine cg_region ?_
      refine zM rfl rfl rfl rfl rfl ?_
      refine zA rfl rfl rfl rfl rfl ?_
      refine lg_nil ?_
      refine nx (zk3 0 1 5 rfl rfl rfl (zk1 4 rfl fn)) ?_
      refine cg_ret ?_
      refine eg_seq_ret ?_
      have u := u.trans (hw1.mono u.size)
      have u := u.trans (hw3.mono u.size)
      have u := u.trans (hw22.mono u.size)
      exact eg_ret_tmp rfl rfl ⟨_, rfl, rfl, u⟩
  · refine lg_callw (want_none (by rfl)) (fewR_any (h.more (B' := w1.heap.size) (by omega)) (Nat.le_refl _)) (by kernel_rfl) rfl rfl rfl (by decide) ?_
    rintro u23 w23 ⟨e23, hw23⟩
    have zw23 := hw23.size
    obtain rfl : u23 = .bool false := e23.trans (congrArg Value.bool (decide_eq_false c2))
    refine za rfl (y_bnot rfl rfl) rfl rfl ?_
    refine zM rfl rfl rfl rfl rfl ?_
    refine zf 12 rfl (by kernel_rfl) rfl rfl rfl ?_
    refine zf 12 rfl (by kernel_rfl) rfl rfl rfl ?_
    refine zf 12 rfl (by kernel_rfl) rfl rfl rfl ?_
    refine za rfl (y_pick true rfl rfl rfl) rfl rfl ?_
    refine zM rfl rfl rfl rfl rfl ?_
    refine zf 17 rfl (by kernel_rfl) rfl rfl rfl ?_
    refine zf 17 rfl (by kernel_rfl) rfl rfl rfl ?_
    refine za rfl (y_pick true rfl rfl rfl) rfl rfl ?_
    refine zM rfl rfl rfl rfl rfl ?_
    refine zf 21 rfl (by kernel_rfl) rfl rfl rfl ?_
    refine zf 21 rfl (by kernel_rfl) rfl rfl rfl ?_
    refine zf 21 rfl (by kernel_rfl) rfl rfl rfl ?_
    refine zf 21 rfl (by kernel_rfl) rfl rfl rfl ?_
    refine za rfl (y_pick true rfl rfl rfl) rfl rfl ?_
    refine lg_nil ?_
    refine nx (zk5 0 1 4 5 26 rfl rfl rfl rfl rfl fn) ?_
    refine cg_ct rfl ?_
    refine cg_seq ?_
    refine cg_region ?_
    refine zM rfl rfl rfl rfl rfl ?_
    refine zA rfl rfl rfl rfl rfl ?_
    refine lg_nil ?_
    refine nx (zk3 0 1 5 rfl rfl rfl (zk1 4 rfl fn)) ?_
    refine cg_ret ?_
    refine eg_seq_ret ?_
    have u := u.trans (hw1.mono u.size)
    have u := u.trans (hw23.mono u.size)
    exact eg_ret_tmp rfl rfl ⟨_, rfl, rfl, u⟩
end Go.Proofs.YtjcnfmmekpiliaaDoor
