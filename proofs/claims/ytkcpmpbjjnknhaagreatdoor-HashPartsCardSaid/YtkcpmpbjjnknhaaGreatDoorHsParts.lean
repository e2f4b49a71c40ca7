/-
  A hash without some is that of the rest.
-/
import Derived.Test.YtkcpmpbjjnknhaaGreatDoorHsAwake
namespace Go.Proofs.YtkcpmpbjjnknhaaGreatDoor
open Go.ChangeShapes Go.WideShapes Go.ChangeAt Go.RowKit
set_option linter.unusedVariables false

set_option maxRecDepth 20000
set_option maxHeartbeats 4000000 in
theorem hashParts_any {W : World} {s : SlV} {Ls : List Nd} (h : RwNd W W.heap.size s Ls) (x : Int) {r : SlV} {xs : List Int} (hn : SlN W W.heap.size r xs) {r2 : SlV} {ys : List Int} (hm : SlN W W.heap.size r2 ys) (rg : Tt W) : Calls Tryz.prog 8 #[s.v, nv x, r.v, r2.v] W fun e W' => ∃ v, e = .returned v ∧ v = .bool true ∧ Below W.heap.size W W' := by
  refine calls_cg (n := 93) Tryz.func8 rfl Tryz.ntmps8 (by simp) ?_
  show CG _ _ _ [(0, s.v), (1, nv x), (2, r.v), (3, r2.v)] _ _
  have u := Below.refl W.heap.size W
  have q1 := h.len
  have q2 := h.cap
  have q3 := hn.len
  have q4 := hn.cap
  have q5 := hm.len
  have q6 := hm.cap
  refine cg_seq ?_
  refine cg_region ?_
  refine zA rfl rfl rfl rfl rfl ?_
  refine lg_nil ?_
  refine nx (zk5 0 1 2 3 8 rfl rfl rfl rfl rfl fn) ?_
  refine cg_seq ?_
  refine cg_region ?_
  refine lg_callw (want_none (by rfl)) (awakeH_any _ (Tt.up u rg)) (by kernel_rfl) rfl rfl rfl (by decide) ?_
  rintro _ w1 ⟨rfl, hw1⟩
  have zw1 := hw1.size
  refine zA rfl rfl rfl rfl rfl ?_
  refine lg_nil ?_
  refine nx (zk5 0 1 2 3 8 rfl rfl rfl rfl rfl (zk1 9 rfl fn)) ?_
  refine cg_seq ?_
  refine cg_seq ?_
  refine cg_region ?_
  refine zM rfl rfl rfl rfl rfl ?_
  have h := h.below (hw1.mono (by omega))
  by_cases c2 : trFew Ls
  · refine lg_callw (want_none (by rfl)) (fewR_any (h.more (B' := w1.heap.size) (by omega)) (Nat.le_refl _)) (by kernel_rfl) rfl rfl rfl (by decide) ?_
    rintro u3 w3 ⟨e3, hw3⟩
    have zw3 := hw3.size
    obtain rfl : u3 = .bool true := e3.trans (congrArg Value.bool (decide_eq_true c2))
    refine za rfl (y_bnot rfl rfl) rfl rfl ?_
    refine zM rfl rfl rfl rfl rfl ?_
    refine zt 16 rfl (by kernel_rfl) rfl (y_move rfl rfl) rfl rfl ?_
    have h := h.below (hw3.mono (by omega))
    refine zt 16 rfl (by kernel_rfl) rfl (y_lenM (el := 40) h.len (by kernel_rfl) rfl rfl) rfl rfl ?_
    by_cases c4 : 20 < (Ls.length : Int)
    · refine zt 16 rfl (by kernel_rfl) rfl (yb (decide_eq_true c4) (yi_gtr rfl rfl rfl)) rfl rfl ?_
      refine za rfl (y_pick false rfl rfl rfl) rfl rfl ?_
      refine zM rfl rfl rfl rfl rfl ?_
      refine zf 21 rfl (by kernel_rfl) rfl rfl rfl ?_
      refine zf 21 rfl (by kernel_rfl) rfl rfl rfl ?_
      refine zf 21 rfl (by kernel_rfl) rfl rfl rfl ?_
      refine za rfl (y_pick true rfl rfl rfl) rfl rfl ?_
      refine zM rfl rfl rfl rfl rfl ?_
      refine zf 26 rfl (by kernel_rfl) rfl rfl rfl ?_
      refine zf 26 rfl (by kernel_rfl) rfl rfl rfl ?_
      refine zf 26 rfl (by kernel_rfl) rfl rfl rfl ?_
      refine za rfl (y_pick true rfl rfl rfl) rfl rfl ?_
      refine zM rfl rfl rfl rfl rfl ?_
      refine zf 31 rfl (by kernel_rfl) rfl rfl rfl ?_
      refine zf 31 rfl (by kernel_rfl) rfl rfl rfl ?_
      refine zf 31 rfl (by kernel_rfl) rfl rfl rfl ?_
      refine za rfl (y_pick true rfl rfl rfl) rfl rfl ?_
      refine lg_nil ?_
      refine nx (zk5 0 1 2 3 8 rfl rfl rfl rfl rfl (zk2 9 35 rfl rfl fn)) ?_
      refine cg_ct rfl ?_
      refine cg_seq ?_
      refine cg_region ?_
      refine zM rfl rfl rfl rfl rfl ?_
      refine zA rfl rfl rfl rfl rfl ?_
      refine lg_nil ?_
      refine nx (zk5 0 1 2 3 9 rfl rfl rfl rfl rfl (zk1 8 rfl fn)) ?_
      refine cg_ret ?_
      refine eg_seq_ret ?_
      have u := u.trans (hw1.mono u.size)
      have u := u.trans (hw3.mono u.size)
      exact eg_ret_tmp rfl rfl ⟨_, rfl, rfl, u⟩
    · refine zt 16 rfl (by kernel_rfl) rfl (yb (decide_eq_false c4) (yi_gtr rfl rfl rfl)) rfl rfl ?_
      refine za rfl (y_pick false rfl rfl rfl) rfl rfl ?_
      refine zM rfl rfl rfl rfl rfl ?_
      refine zt 21 rfl (by kernel_rfl) rfl (y_move rfl rfl) rfl rfl ?_
      by_cases c5 : trIs Ls
      · have htr := c5
        have htl := trIs_le htr
        have hta := trAs_ok htr
        have hd1 := trAs_ok (drop_is (trAs_is Ls) xs)
        have hd2 := trAs_ok (drop_is (trAs_is Ls) ys)
        have ed : (dropL ys (trAs (dropL xs (trAs Ls)))) = (dropL (xs ++ ys) (trAs Ls)) := by rw [hd1, drop_two]
        have ed2 : (dropL xs (trAs (dropL ys (trAs Ls)))) = (dropL (xs ++ ys) (trAs Ls)) := by rw [hd2, drop_two, drop_swap]
        have hd3 : trAs (dropL ys (trAs (dropL xs (trAs Ls)))) = (dropL (xs ++ ys) (trAs Ls)) := by rw [ed, trAs_ok (drop_is (trAs_is Ls) _)]
        refine lg_callw (want_t (dj := 21) (by rfl) (by kernel_rfl) rfl) (sane_any (h.more (B' := w3.heap.size) (by omega)) (Nat.le_refl _)) (by kernel_rfl) rfl rfl rfl (by decide) ?_
        rintro u6 w6 ⟨e6, hw6⟩
        have zw6 := hw6.size
        obtain rfl : u6 = .bool true := e6.trans (congrArg Value.bool (decide_eq_true c5))
        refine zt 21 rfl (by kernel_rfl) rfl (y_bnot rfl rfl) rfl rfl ?_
        refine za rfl (y_pick false rfl rfl rfl) rfl rfl ?_
        refine zM rfl rfl rfl rfl rfl ?_
        refine zt 26 rfl (by kernel_rfl) rfl (y_move rfl rfl) rfl rfl ?_
        have hn := hn.below (hw1.mono (by omega))
        have hn := hn.below (hw3.mono (by omega))
        have hn := hn.below (hw6.mono (by omega))
        refine zt 26 rfl (by kernel_rfl) rfl (y_lenM (el := 3) hn.len (by kernel_rfl) rfl rfl) rfl rfl ?_
        by_cases c7 : 100 < (xs.length : Int)
        · refine zt 26 rfl (by kernel_rfl) rfl (yb (decide_eq_true c7) (yi_gtr rfl rfl rfl)) rfl rfl ?_
          refine za rfl (y_pick false rfl rfl rfl) rfl rfl ?_
          refine zM rfl rfl rfl rfl rfl ?_
          refine zf 31 rfl (by kernel_rfl) rfl rfl rfl ?_
          refine zf 31 rfl (by kernel_rfl) rfl rfl rfl ?_
          refine zf 31 rfl (by kernel_rfl) rfl rfl rfl ?_
          refine za rfl (y_pick true rfl rfl rfl) rfl rfl ?_
          refine lg_nil ?_
          refine nx (zk5 0 1 2 3 8 rfl rfl rfl rfl rfl (zk2 9 35 rfl rfl fn)) ?_
          refine cg_ct rfl ?_
          refine cg_seq ?_
          refine cg_region ?_
          refine zM rfl rfl rfl rfl rfl ?_
          refine zA rfl rfl rfl rfl rfl ?_
          refine lg_nil ?_
          refine nx (zk5 0 1 2 3 9 rfl rfl rfl rfl rfl (zk1 8 rfl fn)) ?_
          refine cg_ret ?_
          refine eg_seq_ret ?_
          have u := u.trans (hw1.mono u.size)
          have u := u.trans (hw3.mono u.size)
          have u := u.trans (hw6.mono u.size)
          exact eg_ret_tmp rfl rfl ⟨_, rfl, rfl, u⟩
        · refine zt 26 rfl (by kernel_rfl) rfl (yb (decide_eq_false c7) (yi_gtr rfl rfl rfl)) rfl rfl ?_
          refine za rfl (y_pick false rfl rfl rfl) rfl rfl ?_
          refine zM rfl rfl rfl rfl rfl ?_
          refine zt 31 rfl (by kernel_rfl) rfl (y_move rfl rfl) rfl rfl ?_
          have hm := hm.below (hw1.mono (by omega))
          have hm := hm.below (hw3.mono (by omega))
          have hm := hm.below (hw6.mono (by omega))
          refine zt 31 rfl (by kernel_rfl) rfl (y_lenM (el := 3) hm.len (by kernel_rfl) rfl rfl) rfl rfl ?_
          by_cases c8 : 100 < (ys.length : Int)
          · refine zt 31 rfl (by kernel_rfl) rfl (yb (decide_eq_true c8) (yi_gtr rfl rfl rfl)) rfl rfl ?_
            refine za rfl (y_pick false rfl rfl rfl) rfl rfl ?_
            refine lg_nil ?_
            refine nx (zk5 0 1 2 3 8 rfl rfl rfl rfl rfl (zk2 9 35 rfl rfl fn)) ?_
            refine cg_ct rfl ?_
            refine cg_seq ?_
            refine cg_region ?_
            refine zM rfl rfl rfl rfl rfl ?_
            refine zA rfl rfl rfl rfl rfl ?_
            refine lg_nil ?_
            refine nx (zk5 0 1 2 3 9 rfl rfl rfl rfl rfl (zk1 8 rfl fn)) ?_
            refine cg_ret ?_
            refine eg_seq_ret ?_
            have u := u.trans (hw1.mono u.size)
            have u := u.trans (hw3.mono u.size)
            have u := u.trans (hw6.mono u.size)
            exact eg_ret_tmp rfl rfl ⟨_, rfl, rfl, u⟩
          · refine zt 31 rfl (by kernel_rfl) rfl (yb (decide_eq_false c8) (yi_gtr rfl rfl rfl)) rfl rfl ?_
            refine za rfl (y_pick false rfl rfl rfl) rfl rfl ?_
            refine lg_nil ?_
            refine nx (zk5 0 1 2 3 8 rfl rfl rfl rfl rfl (zk2 9 35 rfl rfl fn)) ?_
            refine cg_cf rfl ?_
            refine cg_skip ?_
            refine nx (zk5 0 1 2 3 8 rfl rfl rfl rfl rfl (zk1 9 rfl fn)) ?_
            refine cg_seq ?_
            refine cg_region ?_
            obtain ⟨bs10, hbs10⟩ : ∃ q, q = w6.heap.size := ⟨_, rfl⟩
            refine lg_bs0T (want_none (by rfl)) rfl rfl (by decide) fun v9 w9 g9 l9 => ?_
            rw [← hbs10] at g9
            have z9 := l9.size
            refine zM rfl rfl rfl rfl rfl ?_
            have hn := hn.below (l9.mono (by omega))
            refine lg_appT g9 hn (by first | omega | (simp only [List.length_nil]; omega)) (by omega) (want_none (by rfl)) rfl rfl rfl rfl rfl (by decide) fun r11 w11 m11 g11 l11 z11 => ?_
            simp only [List.nil_append] at m11 g11
            refine zA rfl rfl rfl rfl rfl ?_
            refine lg_nil ?_
            refine nx (zk5 0 1 2 3 8 rfl rfl rfl rfl rfl (zk2 9 10 rfl rfl fn)) ?_
            refine cg_seq ?_
            refine cg_region ?_
            refine zM rfl rfl rfl rfl rfl ?_
            refine zM rfl rfl rfl rfl rfl ?_
            have hm := hm.below (l9.mono (by omega))
            have hm := hm.below (l11.mono (by omega))
            refine lg_appT g11 hm (by first | omega | (simp only [List.length_append, List.length_cons, List.length_nil]; omega)) (by omega) (want_none (by rfl)) rfl rfl rfl rfl rfl (by decide) fun r12 w12 m12 g12 l12 z12 => ?_
            refine zA rfl rfl rfl rfl rfl ?_
            refine lg_nil ?_
            refine nx (zk5 0 1 2 3 8 rfl rfl rfl rfl rfl (zk2 9 10 rfl rfl fn)) ?_
            refine cg_seq ?_
            refine cg_region ?_
            refine zM rfl rfl rfl rfl rfl ?_
            refine zM rfl rfl rfl rfl rfl ?_
            have h := h.below (hw6.mono (by omega))
            have h := h.below (l9.mono (by omega))
            have h := h.below (l11.mono (by omega))
            have h := h.below (l12.mono (by omega))
            have hn := hn.below (l11.mono (by omega))
            have hn := hn.below (l12.mono (by omega))
            refine lg_callw (want_none (by rfl)) (drop_any (h.more (B' := w12.heap.size) (by omega)) (hn.more (B' := w12.heap.size) (by omega)) (Nat.le_refl _) (by first | omega | (simp only [List.length_append, List.length_cons, List.length_nil, numOct_length, flagOct_length]; omega))) (by kernel_rfl) rfl rfl rfl (by decide) ?_
            rintro _ w13 ⟨s13, rfl, m13, hw13⟩
            have zw13 := hw13.size
            refine zM rfl rfl rfl rfl rfl ?_
            have hm := hm.below (l12.mono (by omega))
            have hm := hm.below (hw13.mono (by omega))
            refine lg_callw (want_none (by rfl)) (drop_any (m13.more (B' := w13.heap.size) (by omega)) (hm.more (B' := w13.heap.size) (by omega)) (Nat.le_refl _) (by first | omega | (simp only [List.length_append, List.length_cons, List.length_nil, numOct_length, flagOct_length]; omega))) (by kernel_rfl) rfl rfl rfl (by decide) ?_
            rintro _ w14 ⟨s14, rfl, m14, hw14⟩
            have zw14 := hw14.size
            refine zA rfl rfl rfl rfl rfl ?_
            refine lg_nil ?_
            refine nx (zk5 0 1 2 3 8 rfl rfl rfl rfl rfl (zk3 9 10 11 rfl rfl rfl fn)) ?_
            refine cg_seq ?_
            refine cg_held (by kernel_rfl) fun W15 eW15 => ?_
            have dW15 := below_drew _ _ eW15
            have zW15 := size_drew _ _ eW15
            clear eW15
            refine zh 0 rfl rfl rfl rfl rfl (by kernel_rfl) (fun _ _ _ h => h) (fun q hq => y_move rfl rfl) ?_
            refine zh 1 rfl rfl rfl rfl rfl (by kernel_rfl) (fun _ _ _ h => h) (fun q hq => y_move rfl rfl) ?_
            refine hg_take 2 (by rfl) (want_t (dj := 49) (by rfl) (by kernel_rfl) rfl) (by rfl) rfl (by decide) (by kernel_rfl) (by kernel_rfl) (by kernel_rfl) (fun _ _ _ h => h) (Below.refl _ _) (fun q hq => y_move rfl rfl) ?_
            refine hg_take 3 (by rfl) (want_t (dj := 49) (by rfl) (by kernel_rfl) rfl) (by rfl) rfl (by decide) (by kernel_rfl) (by kernel_rfl) (by kernel_rfl) (fun _ _ _ h => h) (Below.refl _ _) (fun q hq => y_move rfl rfl) ?_
            refine hg_take 4 (by rfl) (want_t (dj := 49) (by rfl) (by kernel_rfl) rfl) (by rfl) rfl (by decide) (by kernel_rfl) (by kernel_rfl) (by kernel_rfl) (fun _ _ _ h => h) (Below.refl _ _) (fun q hq => y_move rfl rfl) ?_
            have h := h.below (hw13.mono (by omega))
            have h := h.below (hw14.mono (by omega))
            have h := h.below (dW15.mono (by omega))
            have m12 := m12.below (hw13.mono (by omega))
            have m12 := m12.below (hw14.mono (by omega))
            have m12 := m12.below (dW15.mono (by omega))
            refine hg_one 5 (by rfl) (by kernel_rfl) (want_t (dj := 49) (by rfl) (by kernel_rfl) rfl) ?_
            refine lg_callw (want_t (dj := 49) (by rfl) (by kernel_rfl) rfl) (drop_any (h.more (B' := W15.heap.size) (by omega)) (m12.more (B' := W15.heap.size) (by omega)) (Nat.le_refl _) (by first | omega | (simp only [List.length_append]; omega))) (by kernel_rfl) rfl rfl rfl (by decide) ?_
            rintro _ w16 ⟨s16, rfl, m16, hw16⟩
            have zw16 := hw16.size
            refine hg_next hw16 ?_
            refine hg_up hw16 ?_
            have m14 := m14.below (dW15.mono (by omega))
            have m14 := m14.below (hw16.mono (by omega))
            refine hg_one 6 (by rfl) (by kernel_rfl) (want_t (dj := 49) (by rfl) (by kernel_rfl) rfl) ?_
            refine lg_callw (want_t (dj := 49) (by rfl) (by kernel_rfl) rfl) (sameR_any (m14.more (B' := w16.heap.size) (by omega)) (m16.more (B' := w16.heap.size) (by omega)) (Nat.le_refl _)) (by kernel_rfl) rfl rfl rfl (by decide) ?_
            rintro u17 w17 ⟨e17, hw17⟩
            have zw17 := hw17.size
            obtain rfl : u17 = .bool true := e17.trans (congrArg Value.bool (decide_eq_true (show trSame (dropL ys (trAs (dropL xs (trAs Ls)))) (dropL (xs ++ ys) (trAs Ls)) from (by rw [ed]; exact tr_same _))))
            refine hg_next hw17 ?_
            refine hg_up hw17 ?_
            refine zh 7 rfl rfl rfl rfl rfl (by kernel_rfl) (fun _ _ _ h => h) (fun q hq => y_pick true rfl rfl rfl) ?_
            refine zh 8 rfl rfl rfl rfl rfl (by kernel_rfl) (fun _ _ _ h => h) (fun q hq => y_move rfl rfl) ?_
            refine hg_take 9 (by rfl) (want_t (dj := 56) (by rfl) (by kernel_rfl) rfl) (by rfl) rfl (by decide) (by kernel_rfl) (by kernel_rfl) (by kernel_rfl) (fun _ _ _ h => h) (Below.refl _ _) (fun q hq => y_move rfl rfl) ?_
            refine hg_take 10 (by rfl) (want_t (dj := 56) (by rfl) (by kernel_rfl) rfl) (by rfl) rfl (by decide) (by kernel_rfl) (by kernel_rfl) (by kernel_rfl) (fun _ _ _ h => h) (Below.refl _ _) (fun q hq => y_move rfl rfl) ?_
            refine hg_take 13 (by rfl) (want_t (dj := 56) (by rfl) (by kernel_rfl) rfl) (by rfl) rfl (by decide) (by kernel_rfl) (by kernel_rfl) (by kernel_rfl) (fun _ _ _ h => h) (Below.refl _ _) (fun q hq => y_move rfl rfl) ?_
            refine hg_take 14 (by rfl) (want_t (dj := 56) (by rfl) (by kernel_rfl) rfl) (by rfl) rfl (by decide) (by kernel_rfl) (by kernel_rfl) (by kernel_rfl) (fun _ _ _ h => h) (Below.refl _ _) (fun q hq => y_move rfl rfl) ?_
            refine hg_take 15 (by rfl) (want_t (dj := 56) (by rfl) (by kernel_rfl) rfl) (by rfl) rfl (by decide) (by kernel_rfl) (by kernel_rfl) (by kernel_rfl) (fun _ _ _ h => h) (Below.refl _ _) (fun q hq => y_move rfl rfl) ?_
            have m14 := m14.below (hw17.mono (by omega))
            have u := u.trans (hw1.mono u.size)
            have u := u.trans (hw3.mono u.size)
            have u := u.trans (hw6.mono u.size)
            have u := u.trans (l9.mono u.size)
            have u := u.trans (l11.mono (by omega))
            have u := u.trans (l12.mono (by omega))
            have u := u.trans (hw13.mono u.size)
            have u := u.trans (hw14.mono u.size)
            have u := u.trans (dW15.mono u.size)
            have u := u.trans (hw16.mono u.size)
            have u := u.trans (hw17.mono u.size)
            refine hg_one 11 (by rfl) (by kernel_rfl) (want_t (dj := 56) (by rfl) (by kernel_rfl) rfl) ?_
            refine lg_callw (want_t (dj := 56) (by rfl) (by kernel_rfl) rfl) (of_any (m14.more (B' := w17.heap.size) (by omega)) x (Nat.le_refl _) (Tt.up u rg)) (by kernel_rfl) rfl rfl rfl (by decide) ?_
            rintro _ w18 ⟨r18, rfl, m18, hw18⟩
            have zw18 := hw18.size
            have ol18 := ofH_len (trAs (dropL ys (trAs (dropL xs (trAs Ls))))) x
            refine hg_next hw18 ?_
            refine hg_up hw18 ?_
            have by19 : Bytes (ofH (trAs (dropL ys (trAs (dropL xs (trAs Ls))))) x) := m18.bytes
            refine hg_take 12 (by rfl) (want_t (dj := 56) (by rfl) (by kernel_rfl) rfl) (by rfl) rfl (by decide) (by kernel_rfl) (by kernel_rfl) (by kernel_rfl) (fun _ _ _ h => h) (Below.refl _ _) (fun q hq => y_strS (m18.below (hq.mono (by omega))) rfl rfl) ?_
            have h := h.below (hw16.mono (by omega))
            have h := h.below (hw17.mono (by omega))
            have h := h.below (hw18.mono (by omega))
            have m12 := m12.below (hw16.mono (by omega))
            have m12 := m12.below (hw17.mono (by omega))
            have m12 := m12.below (hw18.mono (by omega))
            have u := u.trans (hw18.mono u.size)
            refine hg_one 16 (by rfl) (by kernel_rfl) (want_t (dj := 56) (by rfl) (by kernel_rfl) rfl) ?_
            refine lg_callw (want_t (dj := 56) (by rfl) (by kernel_rfl) rfl) (without_any (h.more (B' := w18.heap.size) (by omega)) x (m12.more (B' := w18.heap.size) (by omega)) (Nat.le_refl _) (by first | omega | (simp only [List.length_append]; omega)) (Tt.up u rg)) (by kernel_rfl) rfl rfl rfl (by decide) ?_
            rintro _ w20 ⟨r20, rfl, m20, hw20⟩
            have zw20 := hw20.size
            have ol20 := ofH_len (dropL (xs ++ ys) (trAs Ls)) x
            refine hg_next hw20 ?_
            refine hg_up hw20 ?_
            have by21 : Bytes (ofH (dropL (xs ++ ys) (trAs Ls)) x) := m20.bytes
            refine hg_take 17 (by rfl) (want_t (dj := 56) (by rfl) (by kernel_rfl) rfl) (by rfl) rfl (by decide) (by kernel_rfl) (by kernel_rfl) (by kernel_rfl) (fun _ _ _ h => h) (Below.refl _ _) (fun q hq => y_strS (m20.below (hq.mono (by omega))) rfl rfl) ?_
            refine hg_take 18 (by rfl) (want_t (dj := 56) (by rfl) (by kernel_rfl) rfl) (by rfl) rfl (by decide) (by kernel_rfl) (by kernel_rfl) (by kernel_rfl) (fun _ _ _ h => h) (Below.refl _ _) (fun q hq => yb (decide_eq_true (show (ofH (trAs (dropL ys (trAs (dropL xs (trAs Ls))))) x) = (ofH (dropL (xs ++ ys) (trAs Ls)) x) from (by rw [hd3]))) (y_seqS (xs := (ofH (trAs (dropL ys (trAs (dropL xs (trAs Ls))))) x)) (ys := (ofH (dropL (xs ++ ys) (trAs Ls)) x)) by19 by21 rfl rfl rfl)) ?_
            refine zh 19 rfl rfl rfl rfl rfl (by kernel_rfl) (fun _ _ _ h => h) (fun q hq => y_pick true rfl rfl rfl) ?_
            refine zh 20 rfl rfl rfl rfl rfl (by kernel_rfl) (fun _ _ _ h => h) (fun q hq => y_move rfl rfl) ?_
            refine hg_take 21 (by rfl) (want_t (dj := 68) (by rfl) (by kernel_rfl) rfl) (by rfl) rfl (by decide) (by kernel_rfl) (by kernel_rfl) (by kernel_rfl) (fun _ _ _ h => h) (Below.refl _ _) (fun q hq => y_move rfl rfl) ?_
            refine hg_take 22 (by rfl) (want_t (dj := 68) (by rfl) (by kernel_rfl) rfl) (by rfl) rfl (by decide) (by kernel_rfl) (by kernel_rfl) (by kernel_rfl) (fun _ _ _ h => h) (Below.refl _ _) (fun q hq => y_move rfl rfl) ?_
            refine hg_take 24 (by rfl) (want_t (dj := 68) (by rfl) (by kernel_rfl) rfl) (by rfl) rfl (by decide) (by kernel_rfl) (by kernel_rfl) (by kernel_rfl) (fun _ _ _ h => h) (Below.refl _ _) (fun q hq => y_move rfl rfl) ?_
            refine hg_take 25 (by rfl) (want_t (dj := 68) (by rfl) (by kernel_rfl) rfl) (by rfl) rfl (by decide) (by kernel_rfl) (by kernel_rfl) (by kernel_rfl) (fun _ _ _ h => h) (Below.refl _ _) (fun q hq => y_move rfl rfl) ?_
            refine hg_take 28 (by rfl) (want_t (dj := 68) (by rfl) (by kernel_rfl) rfl) (by rfl) rfl (by decide) (by kernel_rfl) (by kernel_rfl) (by kernel_rfl) (fun _ _ _ h => h) (Below.refl _ _) (fun q hq => y_move rfl rfl) ?_
            refine hg_take 29 (by rfl) (want_t (dj := 68) (by rfl) (by kernel_rfl) rfl) (by rfl) rfl (by decide) (by kernel_rfl) (by kernel_rfl) (by kernel_rfl) (fun _ _ _ h => h) (Below.refl _ _) (fun q hq => y_move rfl rfl) ?_
            have h := h.below (hw20.mono (by omega))
            have hm := hm.below (hw14.mono (by omega))
            have hm := hm.below (dW15.mono (by omega))
            have hm := hm.below (hw16.mono (by omega))
            have hm := hm.below (hw17.mono (by omega))
            have hm := hm.below (hw18.mono (by omega))
            have hm := hm.below (hw20.mono (by omega))
            refine hg_one 23 (by rfl) (by kernel_rfl) (want_t (dj := 68) (by rfl) (by kernel_rfl) rfl) ?_
            refine lg_callw (want_t (dj := 68) (by rfl) (by kernel_rfl) rfl) (drop_any (h.more (B' := w20.heap.size) (by omega)) (hm.more (B' := w20.heap.size) (by omega)) (Nat.le_refl _) (by first | omega | (simp only [List.length_append, List.length_cons, List.length_nil, numOct_length, flagOct_length]; omega))) (by kernel_rfl) rfl rfl rfl (by decide) ?_
            rintro _ w22 ⟨s22, rfl, m22, hw22⟩
            have zw22 := hw22.size
            refine hg_next hw22 ?_
            refine hg_up hw22 ?_
            have hn := hn.below (hw13.mono (by omega))
            have hn := hn.below (hw14.mono (by omega))
            have hn := hn.below (dW15.mono (by omega))
            have hn := hn.below (hw16.mono (by omega))
            have hn := hn.below (hw17.mono (by omega))
            have hn := hn.below (hw18.mono (by omega))
            have hn := hn.below (hw20.mono (by omega))
            have hn := hn.below (hw22.mono (by omega))
            have u := u.trans (hw20.mono u.size)
            have u := u.trans (hw22.mono u.size)
            refine hg_one 26 (by rfl) (by kernel_rfl) (want_t (dj := 68) (by rfl) (by kernel_rfl) rfl) ?_
            refine lg_callw (want_t (dj := 68) (by rfl) (by kernel_rfl) rfl) (without_any (m22.more (B' := w22.heap.size) (by omega)) x (hn.more (B' := w22.heap.size) (by omega)) (Nat.le_refl _) (by first | omega | (simp only [List.length_append, List.length_cons, List.length_nil, numOct_length, flagOct_length]; omega)) (Tt.up u rg)) (by kernel_rfl) rfl rfl rfl (by decide) ?_
            rintro _ w23 ⟨r23, rfl, m23, hw23⟩
            have zw23 := hw23.size
            have ol23 := ofH_len (dropL xs (trAs (dropL ys (trAs Ls)))) x
            refine hg_next hw23 ?_
            refine hg_up hw23 ?_
            have by24 : Bytes (ofH (dropL xs (trAs (dropL ys (trAs Ls)))) x) := m23.bytes
            refine hg_take 27 (by rfl) (want_t (dj := 68) (by rfl) (by kernel_rfl) rfl) (by rfl) rfl (by decide) (by kernel_rfl) (by kernel_rfl) (by kernel_rfl) (fun _ _ _ h => h) (Below.refl _ _) (fun q hq => y_strS (m23.below (hq.mono (by omega))) rfl rfl) ?_
            have m14 := m14.below (hw18.mono (by omega))
            have m14 := m14.below (hw20.mono (by omega))
            have m14 := m14.below (hw22.mono (by omega))
            have m14 := m14.below (hw23.mono (by omega))
            have u := u.trans (hw23.mono u.size)
            refine hg_one 30 (by rfl) (by kernel_rfl) (want_t (dj := 68) (by rfl) (by kernel_rfl) rfl) ?_
            refine lg_callw (want_t (dj := 68) (by rfl) (by kernel_rfl) rfl) (of_any (m14.more (B' := w23.heap.size) (by omega)) x (Nat.le_refl _) (Tt.up u rg)) (by kernel_rfl) rfl rfl rfl (by decide) ?_
            rintro _ w25 ⟨r25, rfl, m25, hw25⟩
            have zw25 := hw25.size
            have ol25 := ofH_len (trAs (dropL ys (trAs (dropL xs (trAs Ls))))) x
            refine hg_next hw25 ?_
            refine hg_up hw25 ?_
            have by26 : Bytes (ofH (trAs (dropL ys (trAs (dropL xs (trAs Ls))))) x) := m25.bytes
            refine hg_take 31 (by rfl) (want_t (dj := 68) (by rfl) (by kernel_rfl) rfl) (by rfl) rfl (by decide) (by kernel_rfl) (by kernel_rfl) (by kernel_rfl) (fun _ _ _ h => h) (Below.refl _ _) (fun q hq => y_strS (m25.below (hq.mono (by omega))) rfl rfl) ?_
            refine hg_take 32 (by rfl) (want_t (dj := 68) (by rfl) (by kernel_rfl) rfl) (by rfl) rfl (by decide) (by kernel_rfl) (by kernel_rfl) (by kernel_rfl) (fun _ _ _ h => h) (Below.refl _ _) (fun q hq => yb (decide_eq_true (show (ofH (dropL xs (trAs (dropL ys (trAs Ls)))) x) = (ofH (trAs (dropL ys (trAs (dropL xs (trAs Ls))))) x) from (by rw [hd3, ed2]))) (y_seqS (xs := (ofH (dropL xs (trAs (dropL ys (trAs Ls)))) x)) (ys := (ofH (trAs (dropL ys (trAs (dropL xs (trAs Ls))))) x)) by24 by26 rfl rfl rfl)) ?_
            refine zh 33 rfl rfl rfl rfl rfl (by kernel_rfl) (fun _ _ _ h => h) (fun q hq => y_pick true rfl rfl rfl) ?_
            refine zh 34 rfl rfl rfl rfl rfl (by kernel_rfl) (fun _ _ _ h => h) (fun q hq => y_move rfl rfl) ?_
            refine hg_take 35 (by rfl) (want_t (dj := 82) (by rfl) (by kernel_rfl) rfl) (by rfl) rfl (by decide) (by kernel_rfl) (by kernel_rfl) (by kernel_rfl) (fun _ _ _ h => h) (Below.refl _ _) (fun q hq => y_move rfl rfl) ?_
            refine hg_take 36 (by rfl) (want_t (dj := 82) (by rfl) (by kernel_rfl) rfl) (by rfl) rfl (by decide) (by kernel_rfl) (by kernel_rfl) (by kernel_rfl) (fun _ _ _ h => h) (Below.refl _ _) (fun q hq => y_move rfl rfl) ?_
            refine hg_take 39 (by rfl) (want_t (dj := 82) (by rfl) (by kernel_rfl) rfl) (by rfl) rfl (by decide) (by kernel_rfl) (by kernel_rfl) (by kernel_rfl) (fun _ _ _ h => h) (Below.refl _ _) (fun q hq => y_move rfl rfl) ?_
            refine hg_take 40 (by rfl) (want_t (dj := 82) (by rfl) (by kernel_rfl) rfl) (by rfl) rfl (by decide) (by kernel_rfl) (by kernel_rfl) (by kernel_rfl) (fun _ _ _ h => h) (Below.refl _ _) (fun q hq => y_move rfl rfl) ?_
            have h := h.below (hw22.mono (by omega))
            have h := h.below (hw23.mono (by omega))
            have h := h.below (hw25.mono (by omega))
            have u := u.trans (hw25.mono u.size)
            refine hg_one 37 (by rfl) (by kernel_rfl) (want_t (dj := 82) (by rfl) (by kernel_rfl) rfl) ?_
            refine lg_callw (want_t (dj := 82) (by rfl) (by kernel_rfl) rfl) (without_any (h.more (B' := w25.heap.size) (by omega)) x (SlN.nil _ _) (Nat.le_refl _) (by first | omega | (simp only [List.length_nil]; omega)) (Tt.up u rg)) (by kernel_rfl) rfl rfl rfl (by decide) ?_
            rintro _ w27 ⟨r27, rfl, m27, hw27⟩
            have zw27 := hw27.size
            have ol27 := ofH_len (dropL [] (trAs Ls)) x
            refine hg_next hw27 ?_
            refine hg_up hw27 ?_
            have by28 : Bytes (ofH (dropL [] (trAs Ls)) x) := m27.bytes
            refine hg_take 38 (by rfl) (want_t (dj := 82) (by rfl) (by kernel_rfl) rfl) (by rfl) rfl (by decide) (by kernel_rfl) (by kernel_rfl) (by kernel_rfl) (fun _ _ _ h => h) (Below.refl _ _) (fun q hq => y_strS (m27.below (hq.mono (by omega))) rfl rfl) ?_
            have h := h.below (hw27.mono (by omega))
            have u := u.trans (hw27.mono u.size)
            refine hg_one 41 (by rfl) (by kernel_rfl) (want_t (dj := 82) (by rfl) (by kernel_rfl) rfl) ?_
            refine lg_callw (want_t (dj := 82) (by rfl) (by kernel_rfl) rfl) (of_any (h.more (B' := w27.heap.size) (by omega)) x (Nat.le_refl _) (Tt.up u rg)) (by kernel_rfl) rfl rfl rfl (by decide) ?_
            rintro _ w29 ⟨r29, rfl, m29, hw29⟩
            have zw29 := hw29.size
            have ol29 := ofH_len (trAs Ls) x
            refine hg_next hw29 ?_
            refine hg_up hw29 ?_
            have by30 : Bytes (ofH (trAs Ls) x) := m29.bytes
            refine hg_take 42 (by rfl) (want_t (dj := 82) (by rfl) (by kernel_rfl) rfl) (by rfl) rfl (by decide) (by kernel_rfl) (by kernel_rfl) (by kernel_rfl) (fun _ _ _ h => h) (Below.refl _ _) (fun q hq => y_strS (m29.below (hq.mono (by omega))) rfl rfl) ?_
            refine hg_take 43 (by rfl) (want_t (dj := 82) (by rfl) (by kernel_rfl) rfl) (by rfl) rfl (by decide) (by kernel_rfl) (by kernel_rfl) (by kernel_rfl) (fun _ _ _ h => h) (Below.refl _ _) (fun q hq => yb (decide_eq_true (show (ofH (dropL [] (trAs Ls)) x) = (ofH (trAs Ls) x) from (by rw [drop_none (trAs_is Ls)]))) (y_seqS (xs := (ofH (dropL [] (trAs Ls)) x)) (ys := (ofH (trAs Ls) x)) by28 by30 rfl rfl rfl)) ?_
            refine zh 44 rfl rfl rfl rfl rfl (by kernel_rfl) (fun _ _ _ h => h) (fun q hq => y_pick true rfl rfl rfl) ?_
            refine zh 45 rfl rfl rfl rfl rfl (by kernel_rfl) (fun _ _ _ h => h) (fun q hq => y_assign rfl rfl) ?_
            refine hg_done (by kernel_rfl) ?_
            refine nx (zk1 8 rfl fn) ?_
            refine cg_ret ?_
            have u := u.trans (hw29.mono u.size)
            exact eg_ret_tmp rfl rfl ⟨_, rfl, rfl, u⟩
      · refine lg_callw (want_t (dj := 21) (by rfl) (by kernel_rfl) rfl) (sane_any (h.more (B' := w3.heap.size) (by omega)) (Nat.le_refl _)) (by kernel_rfl) rfl rfl rfl (by decide) ?_
        rintro u31 w31 ⟨e31, hw31⟩
        have zw31 := hw31.size
        obtain rfl : u31 = .bool false := e31.trans (congrArg Value.bool (decide_eq_false c5))
        refine zt 21 rfl (by kernel_rfl) rfl (y_bnot rfl rfl) rfl rfl ?_
        refine za rfl (y_pick false rfl rfl rfl) rfl rfl ?_
        refine zM rfl rfl rfl rfl rfl ?_
        refine zf 26 rfl (by kernel_rfl) rfl rfl rfl ?_
        refine zf 26 rfl (by kernel_rfl) rfl rfl rfl ?_
        refine zf 26 rfl (by kernel_rfl) rfl rfl rfl ?_
        refine za rfl (y_pick true rfl rfl rfl) rfl rfl ?_
        refine zM rfl rfl rfl rfl rfl ?_
        refine zf 31 rfl (by kernel_rfl) rfl rfl rfl ?_
        refine zf 31 rfl (by kernel_rfl) rfl rfl rfl ?_
        refine zf 31 rfl (by kernel_rfl) rfl rfl rfl ?_
        refine za rfl (y_pick true rfl rfl rfl) rfl rfl ?_
        refine lg_nil ?_
        refine nx (zk5 0 1 2 3 8 rfl rfl rfl rfl rfl (zk2 9 35 rfl rfl fn)) ?_
        refine cg_ct rfl ?_
        refine cg_seq ?_
        refine cg_region ?_
        refine zM rfl rfl rfl rfl rfl ?_
        refine zA rfl rfl rfl rfl rfl ?_
        refine lg_nil ?_
        refine nx (zk5 0 1 2 3 9 rfl rfl rfl rfl rfl (zk1 8 rfl fn)) ?_
        refine cg_ret ?_
        refine eg_seq_ret ?_
        have u := u.trans (hw1.mono u.size)
        have u := u.trans (hw3.mono u.size)
        have u := u.trans (hw31.mono u.size)
        exact eg_ret_tmp rfl rfl ⟨_, rfl, rfl, u⟩
  · refine lg_callw (want_none (by rfl)) (fewR_any (h.more (B' := w1.heap.size) (by omega)) (Nat.le_refl _)) (by kernel_rfl) rfl rfl rfl (by decide) ?_
    rintro u32 w32 ⟨e32, hw32⟩
    have zw32 := hw32.size
    obtain rfl : u32 = .bool false := e32.trans (congrArg Value.bool (decide_eq_false c2))
    refine za rfl (y_bnot rfl rfl) rfl rfl ?_
    refine zM rfl rfl rfl rfl rfl ?_
    refine zf 16 rfl (by kernel_rfl) rfl rfl rfl ?_
    refine zf 16 rfl (by kernel_rfl) rfl rfl rfl ?_
    refine zf 16 rfl (by kernel_rfl) rfl rfl rfl ?_
    refine za rfl (y_pick true rfl rfl rfl) rfl rfl ?_
    refine zM rfl rfl rfl rfl rfl ?_
    refine zf 21 rfl (by kernel_rfl) rfl rfl rfl ?_
    refine zf 21 rfl (by kernel_rfl) rfl rfl rfl ?_
    refine zf 21 rfl (by kernel_rfl) rfl rfl rfl ?_
    refine za rfl (y_pick true rfl rfl rfl) rfl rfl ?_
    refine zM rfl rfl rfl rfl rfl ?_
    refine zf 26 rfl (by kernel_rfl) rfl rfl rfl ?_
    refine zf 26 rfl (by kernel_rfl) rfl rfl rfl ?_
    refine zf 26 rfl (by kernel_rfl) rfl rfl rfl ?_
    refine za rfl (y_pick true rfl rfl rfl) rfl rfl ?_
    refine zM rfl rfl rfl rfl rfl ?_
    refine zf 31 rfl (by kernel_rfl) rfl rfl rfl ?_
    refine zf 31 rfl (by kernel_rfl) rfl rfl rfl ?_
    refine zf 31 rfl (by kernel_rfl) rfl rfl rfl ?_
    refine za rfl (y_pick true rfl rfl rfl) rfl rfl ?_
    refine lg_nil ?_
    refine nx (zk5 0 1 2 3 8 rfl rfl rfl rfl rfl (zk2 9 35 rfl rfl fn)) ?_
    refine cg_ct rfl ?_
    refine cg_seq ?_
    refine cg_region ?_
    refine zM rfl rfl rfl rfl rfl ?_
    refine zA rfl rfl rfl rfl rfl ?_
    refine lg_nil ?_
    refine nx (zk5 0 1 2 3 9 rfl rfl rfl rfl rfl (zk1 8 rfl fn)) ?_
    refine cg_ret ?_
    refine eg_seq_ret ?_
    have u := u.trans (hw1.mono u.size)
    have u := u.trans (hw32.mono u.size)
    exact eg_ret_tmp rfl rfl ⟨_, rfl, rfl, u⟩
end Go.Proofs.YtkcpmpbjjnknhaaGreatDoor
