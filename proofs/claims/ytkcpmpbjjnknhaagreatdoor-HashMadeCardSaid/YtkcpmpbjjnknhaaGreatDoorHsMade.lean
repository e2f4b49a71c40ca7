/-
  Each hash is made of the children's.
-/
import Derived.Test.YtkcpmpbjjnknhaaGreatDoorHsAwake
namespace Go.Proofs.YtkcpmpbjjnknhaaGreatDoor
open Go.ChangeShapes Go.WideShapes Go.ChangeAt Go.RowKit
set_option linter.unusedVariables false

set_option maxRecDepth 20000
set_option maxHeartbeats 4000000 in
theorem hashMade_any {W : World} {s : SlV} {Ls : List Nd} (h : RwNd W W.heap.size s Ls) (x : Int) (rg : Tt W) : Calls Tryz.prog 5 #[s.v, nv x] W fun e W' => ∃ v, e = .returned v ∧ v = .bool true ∧ Below W.heap.size W W' := by
  refine calls_cg (n := 78) Tryz.func5 rfl Tryz.ntmps5 (by simp) ?_
  show CG _ _ _ [(0, s.v), (1, nv x)] _ _
  have u := Below.refl W.heap.size W
  have q1 := h.len
  have q2 := h.cap
  refine cg_seq ?_
  refine cg_region ?_
  refine zA rfl rfl rfl rfl rfl ?_
  refine lg_nil ?_
  refine nx (zk3 0 1 4 rfl rfl rfl fn) ?_
  refine cg_seq ?_
  refine cg_region ?_
  refine lg_callw (want_none (by rfl)) (awakeH_any _ (Tt.up u rg)) (by kernel_rfl) rfl rfl rfl (by decide) ?_
  rintro _ w1 ⟨rfl, hw1⟩
  have zw1 := hw1.size
  refine zA rfl rfl rfl rfl rfl ?_
  refine lg_nil ?_
  refine nx (zk3 0 1 4 rfl rfl rfl (zk1 5 rfl fn)) ?_
  refine cg_seq ?_
  refine cg_seq ?_
  refine cg_region ?_
  refine zM rfl rfl rfl rfl rfl ?_
  have h := h.below (hw1.mono (by omega))
  by_cases c2 : trFew Ls
  · refine lg_callw (want_none (by rfl)) (fewR_any (h.more (B' := w1.heap.size) (by omega)) (Nat.le_refl _)) (by kernel_rfl) rfl rfl rfl (by decide) ?_
    rintro u3 w3 ⟨e3, hw3⟩
    have zw3 := hw3.size
    obtain rfl : u3 = .bool true := e3.trans (congrArg Value.bool (decide_eq_true c2))
    refine za rfl (y_bnot rfl rfl) rfl rfl ?_
    refine zM rfl rfl rfl rfl rfl ?_
    refine zt 12 rfl (by kernel_rfl) rfl (y_move rfl rfl) rfl rfl ?_
    have h := h.below (hw3.mono (by omega))
    refine zt 12 rfl (by kernel_rfl) rfl (y_lenM (el := 40) h.len (by kernel_rfl) rfl rfl) rfl rfl ?_
    by_cases c4 : 40 < (Ls.length : Int)
    · refine zt 12 rfl (by kernel_rfl) rfl (yb (decide_eq_true c4) (yi_gtr rfl rfl rfl)) rfl rfl ?_
      refine za rfl (y_pick false rfl rfl rfl) rfl rfl ?_
      refine zM rfl rfl rfl rfl rfl ?_
      refine zf 17 rfl (by kernel_rfl) rfl rfl rfl ?_
      refine zf 17 rfl (by kernel_rfl) rfl rfl rfl ?_
      refine zf 17 rfl (by kernel_rfl) rfl rfl rfl ?_
      refine za rfl (y_pick true rfl rfl rfl) rfl rfl ?_
      refine lg_nil ?_
      refine nx (zk5 0 1 4 5 21 rfl rfl rfl rfl rfl fn) ?_
      refine cg_ct rfl ?_
      refine cg_seq ?_
      refine cg_region ?_
      refine zM rfl rfl rfl rfl rfl ?_
      refine zA rfl rfl rfl rfl rfl ?_
      refine lg_nil ?_
      refine nx (zk3 0 1 5 rfl rfl rfl (zk1 4 rfl fn)) ?_
      refine cg_ret ?_
      refine eg_seq_ret ?_
      have u := u.trans (hw1.mono u.size)
      have u := u.trans (hw3.mono u.size)
      exact eg_ret_tmp rfl rfl ⟨_, rfl, rfl, u⟩
    · refine zt 12 rfl (by kernel_rfl) rfl (yb (decide_eq_false c4) (yi_gtr rfl rfl rfl)) rfl rfl ?_
      refine za rfl (y_pick false rfl rfl rfl) rfl rfl ?_
      refine zM rfl rfl rfl rfl rfl ?_
      refine zt 17 rfl (by kernel_rfl) rfl (y_move rfl rfl) rfl rfl ?_
      by_cases c5 : trIs Ls
      · have htr := c5
        have htl := trIs_le htr
        have hta := trAs_ok htr
        refine lg_callw (want_t (dj := 17) (by rfl) (by kernel_rfl) rfl) (sane_any (h.more (B' := w3.heap.size) (by omega)) (Nat.le_refl _)) (by kernel_rfl) rfl rfl rfl (by decide) ?_
        rintro u6 w6 ⟨e6, hw6⟩
        have zw6 := hw6.size
        obtain rfl : u6 = .bool true := e6.trans (congrArg Value.bool (decide_eq_true c5))
        refine zt 17 rfl (by kernel_rfl) rfl (y_bnot rfl rfl) rfl rfl ?_
        refine za rfl (y_pick false rfl rfl rfl) rfl rfl ?_
        refine lg_nil ?_
        refine nx (zk5 0 1 4 5 21 rfl rfl rfl rfl rfl fn) ?_
        refine cg_cf rfl ?_
        refine cg_skip ?_
        refine nx (zk3 0 1 4 rfl rfl rfl (zk1 5 rfl fn)) ?_
        refine cg_seq ?_
        refine cg_region ?_
        refine zM rfl rfl rfl rfl rfl ?_
        refine zM rfl rfl rfl rfl rfl ?_
        have h := h.below (hw6.mono (by omega))
        have u := u.trans (hw1.mono u.size)
        have u := u.trans (hw3.mono u.size)
        have u := u.trans (hw6.mono u.size)
        refine lg_callw (want_none (by rfl)) (of_any (h.more (B' := w6.heap.size) (by omega)) x (Nat.le_refl _) (Tt.up u rg)) (by kernel_rfl) rfl rfl rfl (by decide) ?_
        rintro _ w7 ⟨r7, rfl, m7, hw7⟩
        have zw7 := hw7.size
        have ol7 := ofH_len (trAs Ls) x
        refine zA rfl rfl rfl rfl rfl ?_
        refine lg_nil ?_
        refine nx (zk5 0 1 4 5 6 rfl rfl rfl rfl rfl fn) ?_
        refine cg_seq ?_
        refine cg_seq ?_
        refine cg_region ?_
        refine zM rfl rfl rfl rfl rfl ?_
        refine zM rfl rfl rfl rfl rfl ?_
        have h := h.below (hw7.mono (by omega))
        refine za rfl (y_lenM (el := 40) h.len (by kernel_rfl) rfl rfl) rfl rfl ?_
        by_cases c8 : isN x (Ls.length : Int)
        · have hx := c8
          have lex := hx.le
          have hox : (ofH (trAs Ls) x) = hsL Ls x := by rw [hta, ofH_yes hx]
          refine za rfl (yb (decide_eq_true c8) (y_call (isL_any x (Ls.length : Int) _) (by kernel_rfl) rfl rfl)) rfl rfl ?_
          refine za rfl (y_bnot rfl rfl) rfl rfl ?_
          refine lg_nil ?_
          refine nx (zk5 0 1 4 5 6 rfl rfl rfl rfl rfl (zk1 30 rfl fn)) ?_
          refine cg_cf rfl ?_
          refine cg_skip ?_
          refine nx (zk5 0 1 4 5 6 rfl rfl rfl rfl rfl fn) ?_
          refine cg_seq ?_
          refine cg_region ?_
          refine zM rfl rfl rfl rfl rfl ?_
          refine za rfl (yi_quo rfl rfl rfl (by omega) (by omega) (by omega)) rfl rfl ?_
          refine zM rfl rfl rfl rfl rfl ?_
          refine zM rfl rfl rfl rfl rfl ?_
          obtain ⟨eb9, eo9, el9, eL9, eA9, eB9, eg9, eh9, ec9⟩ := h.at (x.toNat) (by have := h.len; omega)
          refine za rfl (y_ixR (s := s) (el := 40) (k := 8) (i := x.toNat) (iI := x) eA9 (by kernel_rfl) (by kernel_rfl) (by omega) (by have := h.len; omega) rfl rfl rfl) rfl rfl ?_
          refine za rfl (y_loadC (cs := el9.cs eL9) ec9 (by kernel_rfl) (by kernel_rfl) rfl rfl) rfl rfl ?_
          refine lg_callw (want_none (by rfl)) (ofLeafN_any (x / 2) (eh9.more (B' := w7.heap.size) (by omega)) (Nat.le_refl _)) (by kernel_rfl) rfl rfl rfl (by decide) ?_
          rintro _ w10 ⟨r10, rfl, m10, hw10⟩
          have zw10 := hw10.size
          have lp10 := ofLeafO_le (x / 2) eL9
          refine zA rfl rfl rfl rfl rfl ?_
          refine lg_nil ?_
          refine nx (zk5 0 1 4 5 6 rfl rfl rfl rfl rfl (zk1 7 rfl fn)) ?_
          refine cg_seq ?_
          refine cg_seq ?_
          refine cg_region ?_
          refine zM rfl rfl rfl rfl rfl ?_
          refine za rfl (yi_rem rfl rfl rfl (by omega) (by omega)) rfl rfl ?_
          by_cases c11 : (x % 2) = 1
          · have ho : ¬ x % 2 = 0 := by omega
            obtain ⟨⟨hkl, _⟩, hkr, _⟩ := odd_kids hx ho
            have hol : ofH (trAs Ls) (leftI x (Ls.length : Int)) = hsL Ls (leftI x (Ls.length : Int)) := by rw [hta, ofH_yes hkl]
            have hor : ofH (trAs Ls) (rightI x (Ls.length : Int)) = hsL Ls (rightI x (Ls.length : Int)) := by rw [hta, ofH_yes hkr]
            refine za rfl (yb (decide_eq_true c11) (yi_eql rfl rfl rfl)) rfl rfl ?_
            refine lg_nil ?_
            refine nx (zk5 0 1 4 5 6 rfl rfl rfl rfl rfl (zk2 7 46 rfl rfl fn)) ?_
            refine cg_ct rfl ?_
            refine cg_held (by kernel_rfl) fun W12 eW12 => ?_
            have dW12 := below_drew _ _ eW12
            have zW12 := size_drew _ _ eW12
            clear eW12
            refine zh 0 rfl rfl rfl rfl rfl (by kernel_rfl) (fun _ _ _ h => h) (fun q hq => y_move rfl rfl) ?_
            refine zh 1 rfl rfl rfl rfl rfl (by kernel_rfl) (fun _ _ _ h => h) (fun q hq => y_move rfl rfl) ?_
            have h := h.below (hw10.mono (by omega))
            have h := h.below (dW12.mono (by omega))
            obtain ⟨eb13, eo13, el13, eL13, eA13, eB13, eg13, eh13, ec13⟩ := h.at (x.toNat) (by have := h.len; omega)
            obtain rfl : eL9 = eL13 := Option.some.inj (eg9.symm.trans eg13)
            refine zh 2 rfl rfl rfl rfl rfl (by kernel_rfl) (fun _ _ _ h => h) (fun q hq => y_ixR (s := s) (el := 40) (k := 8) (i := x.toNat) (iI := x) eA13 (by kernel_rfl) (by kernel_rfl) (by omega) (by have := h.len; omega) rfl rfl rfl) ?_
            refine zh 3 rfl rfl rfl rfl rfl (by kernel_rfl) (fun _ _ _ h => h) (fun q hq => y_loadC (cs := el13.cs eL9) (fun k u e => (hq.cell (p := ⟨eb13, _, none⟩) (show eb13 < _ by omega)).trans (ec13 k u e)) (by kernel_rfl) (by kernel_rfl) rfl rfl) ?_
            refine zh 4 rfl rfl rfl rfl rfl (by kernel_rfl) (fun _ _ _ h => h) (fun q hq => y_move rfl rfl) ?_
            refine zh 5 rfl rfl rfl rfl rfl (by kernel_rfl) (fun _ _ _ h => h) (fun q hq => y_move rfl rfl) ?_
            refine zh 6 rfl rfl rfl rfl rfl (by kernel_rfl) (fun _ _ _ h => h) (fun q hq => y_move rfl rfl) ?_
            refine zh 7 rfl rfl rfl rfl rfl (by kernel_rfl) (fun _ _ _ h => h) (fun q hq => y_lenM (el := 40) h.len (by kernel_rfl) rfl rfl) ?_
            refine zh 10 rfl rfl rfl rfl rfl (by kernel_rfl) (fun _ _ _ h => h) (fun q hq => y_move rfl rfl) ?_
            refine zh 11 rfl rfl rfl rfl rfl (by kernel_rfl) (fun _ _ _ h => h) (fun q hq => y_move rfl rfl) ?_
            refine zh 12 rfl rfl rfl rfl rfl (by kernel_rfl) (fun _ _ _ h => h) (fun q hq => y_move rfl rfl) ?_
            refine zh 13 rfl rfl rfl rfl rfl (by kernel_rfl) (fun _ _ _ h => h) (fun q hq => y_lenM (el := 40) h.len (by kernel_rfl) rfl rfl) ?_
            have u := u.trans (hw7.mono u.size)
            have u := u.trans (hw10.mono u.size)
            have u := u.trans (dW12.mono u.size)
            refine hg_one 8 (by rfl) (by kernel_rfl) (want_none (by rfl)) ?_
            refine za rfl (y_call (left_any x (Ls.length : Int) _ (Tt.up u rg).b) (by kernel_rfl) rfl rfl) rfl rfl ?_
            refine hg_next (Below.refl _ _) ?_
            refine hg_one 9 (by rfl) (by kernel_rfl) (want_none (by rfl)) ?_
            refine lg_callw (want_none (by rfl)) (of_any (h.more (B' := W12.heap.size) (by omega)) (leftI x (Ls.length : Int)) (Nat.le_refl _) (Tt.up u rg)) (by kernel_rfl) rfl rfl rfl (by decide) ?_
            rintro _ w14 ⟨r14, rfl, m14, hw14⟩
            have zw14 := hw14.size
            have ol14 := ofH_len (trAs Ls) (leftI x (Ls.length : Int))
            refine hg_next hw14 ?_
            refine hg_up hw14 ?_
            have u := u.trans (hw14.mono u.size)
            refine hg_one 14 (by rfl) (by kernel_rfl) (want_none (by rfl)) ?_
            refine za rfl (y_call (right_any x (Ls.length : Int) _ (Tt.up u rg).b) (by kernel_rfl) rfl rfl) rfl rfl ?_
            refine hg_next (Below.refl _ _) ?_
            have h := h.below (hw14.mono (by omega))
            refine hg_one 15 (by rfl) (by kernel_rfl) (want_none (by rfl)) ?_
            refine lg_callw (want_none (by rfl)) (of_any (h.more (B' := w14.heap.size) (by omega)) (rightI x (Ls.length : Int)) (Nat.le_refl _) (Tt.up u rg)) (by kernel_rfl) rfl rfl rfl (by decide) ?_
            rintro _ w15 ⟨r15, rfl, m15, hw15⟩
            have zw15 := hw15.size
            have ol15 := ofH_len (trAs Ls) (rightI x (Ls.length : Int))
            refine hg_next hw15 ?_
            refine hg_up hw15 ?_
            have eh13 := eh13.below (hw14.mono (by omega))
            have eh13 := eh13.below (hw15.mono (by omega))
            have m14 := m14.below (hw15.mono (by omega))
            refine hg_one 16 (by rfl) (by kernel_rfl) (want_none (by rfl)) ?_
            refine lg_callw (want_none (by rfl)) (ofInnerN_any (eh13.more (B' := w15.heap.size) (by omega)) (m14.more (B' := w15.heap.size) (by omega)) (m15.more (B' := w15.heap.size) (by omega)) (Nat.le_refl _) (by first | omega | (simp only [List.length_append, List.length_cons, List.length_nil, numOct_length, flagOct_length]; omega)) (by first | omega | (simp only [List.length_append, List.length_cons, List.length_nil, numOct_length, flagOct_length]; omega))) (by kernel_rfl) rfl rfl rfl (by decide) ?_
            rintro _ w16 ⟨r16, rfl, m16, hw16⟩
            have zw16 := hw16.size
            have lp16 := ofInnerO_le eL9 (ofH (trAs Ls) (leftI x (Ls.length : Int))) (ofH (trAs Ls) (rightI x (Ls.length : Int)))
            refine hg_next hw16 ?_
            refine hg_up hw16 ?_
            refine zh 17 rfl rfl rfl rfl rfl (by kernel_rfl) (fun _ _ _ h => h) (fun q hq => y_assign rfl rfl) ?_
            refine hg_done (by kernel_rfl) ?_
            refine nx (zk3 4 5 6 rfl rfl rfl (zk1 7 rfl fn)) ?_
            refine cg_seq ?_
            refine cg_held (by kernel_rfl) fun W17 eW17 => ?_
            have dW17 := below_drew _ _ eW17
            have zW17 := size_drew _ _ eW17
            clear eW17
            refine zh 0 rfl rfl rfl rfl rfl (by kernel_rfl) (fun _ _ _ h => h) (fun q hq => y_move rfl rfl) ?_
            refine zh 1 rfl rfl rfl rfl rfl (by kernel_rfl) (fun _ _ _ h => h) (fun q hq => y_move rfl rfl) ?_
            refine hg_take 2 (by rfl) (want_t (dj := 65) (by rfl) (by kernel_rfl) rfl) (by rfl) rfl (by decide) (by kernel_rfl) (by kernel_rfl) (by kernel_rfl) (fun _ _ _ h => h) (Below.refl _ _) (fun q hq => y_move rfl rfl) ?_
            have m7 := m7.below (hw10.mono (by omega))
            have m7 := m7.below (dW12.mono (by omega))
            have m7 := m7.below (hw14.mono (by omega))
            have m7 := m7.below (hw15.mono (by omega))
            have m7 := m7.below (hw16.mono (by omega))
            have m7 := m7.below (dW17.mono (by omega))
            refine hg_take 3 (by rfl) (want_t (dj := 65) (by rfl) (by kernel_rfl) rfl) (by rfl) rfl (by decide) (by kernel_rfl) (by kernel_rfl) (by kernel_rfl) (fun _ _ _ h => h) (Below.refl _ _) (fun q hq => y_lenS (el := 5) m7 (by kernel_rfl) rfl rfl) ?_
            refine hg_take 4 (by rfl) (want_t (dj := 65) (by rfl) (by kernel_rfl) rfl) (by rfl) rfl (by decide) (by kernel_rfl) (by kernel_rfl) (by kernel_rfl) (fun _ _ _ h => h) (Below.refl _ _) (fun q hq => yb (decide_eq_true (show ((ofH (trAs Ls) x).length : Int) = 32 from (by rw [hox, hsL_len]; rfl))) (yi_eql rfl rfl rfl)) ?_
            refine zh 5 rfl rfl rfl rfl rfl (by kernel_rfl) (fun _ _ _ h => h) (fun q hq => y_pick true rfl rfl rfl) ?_
            refine zh 6 rfl rfl rfl rfl rfl (by kernel_rfl) (fun _ _ _ h => h) (fun q hq => y_move rfl rfl) ?_
            refine hg_take 7 (by rfl) (want_t (dj := 70) (by rfl) (by kernel_rfl) rfl) (by rfl) rfl (by decide) (by kernel_rfl) (by kernel_rfl) (by kernel_rfl) (fun _ _ _ h => h) (Below.refl _ _) (fun q hq => y_move rfl rfl) ?_
            have by18 : Bytes (ofH (trAs Ls) x) := m7.bytes
            refine hg_take 8 (by rfl) (want_t (dj := 70) (by rfl) (by kernel_rfl) rfl) (by rfl) rfl (by decide) (by kernel_rfl) (by kernel_rfl) (by kernel_rfl) (fun _ _ _ h => h) (Below.refl _ _) (fun q hq => y_strS (m7.below (hq.mono (by omega))) rfl rfl) ?_
            refine hg_take 9 (by rfl) (want_t (dj := 70) (by rfl) (by kernel_rfl) rfl) (by rfl) rfl (by decide) (by kernel_rfl) (by kernel_rfl) (by kernel_rfl) (fun _ _ _ h => h) (Below.refl _ _) (fun q hq => y_move rfl rfl) ?_
            have m16 := m16.below (dW17.mono (by omega))
            have u := u.trans (hw15.mono u.size)
            have u := u.trans (hw16.mono u.size)
            have u := u.trans (dW17.mono u.size)
            refine hg_one 10 (by rfl) (by kernel_rfl) (want_t (dj := 70) (by rfl) (by kernel_rfl) rfl) ?_
            refine lg_callw (want_t (dj := 70) (by rfl) (by kernel_rfl) rfl) (sumS_any (m16.more (B' := W17.heap.size) (by omega)) (Nat.le_refl _) (by first | omega | (simp only [List.length_append, List.length_cons, List.length_nil, numOct_length, flagOct_length]; omega)) (Tt.up u rg)) (by kernel_rfl) rfl rfl rfl (by decide) ?_
            rintro _ w19 ⟨r19, rfl, m19, hw19⟩
            have zw19 := hw19.size
            refine hg_next hw19 ?_
            refine hg_up hw19 ?_
            have by20 : Bytes (sumL (ofInnerO eL9 (ofH (trAs Ls) (leftI x (Ls.length : Int))) (ofH (trAs Ls) (rightI x (Ls.length : Int))))) := m19.1.bytes
            refine hg_take 11 (by rfl) (want_t (dj := 70) (by rfl) (by kernel_rfl) rfl) (by rfl) rfl (by decide) (by kernel_rfl) (by kernel_rfl) (by kernel_rfl) (fun _ _ _ h => h) (Below.refl _ _) (fun q hq => y_strS (m19.below hq).1 rfl rfl) ?_
            have f21 : (ofH (trAs Ls) x) = (sumL (ofInnerO eL9 (ofH (trAs Ls) (leftI x (Ls.length : Int))) (ofH (trAs Ls) (rightI x (Ls.length : Int))))) := (by rw [hox, hs_inner hx ho, hol, hor, atN_some eg9])
            refine hg_take 12 (by rfl) (want_t (dj := 70) (by rfl) (by kernel_rfl) rfl) (by rfl) rfl (by decide) (by kernel_rfl) (by kernel_rfl) (by kernel_rfl) (fun _ _ _ h => h) (Below.refl _ _) (fun q hq => yb (decide_eq_true f21) (y_seqS (xs := (ofH (trAs Ls) x)) (ys := (sumL (ofInnerO eL9 (ofH (trAs Ls) (leftI x (Ls.length : Int))) (ofH (trAs Ls) (rightI x (Ls.length : Int)))))) by18 by20 rfl rfl rfl)) ?_
            refine zh 13 rfl rfl rfl rfl rfl (by kernel_rfl) (fun _ _ _ h => h) (fun q hq => y_pick true rfl rfl rfl) ?_
            refine zh 14 rfl rfl rfl rfl rfl (by kernel_rfl) (fun _ _ _ h => h) (fun q hq => y_assign rfl rfl) ?_
            refine hg_done (by kernel_rfl) ?_
            refine nx (zk1 4 rfl fn) ?_
            refine cg_ret ?_
            have u := u.trans (hw19.mono u.size)
            exact eg_ret_tmp rfl rfl ⟨_, rfl, rfl, u⟩
          · have he : x % 2 = 0 := by omega
            refine za rfl (yb (decide_eq_false c11) (yi_eql rfl rfl rfl)) rfl rfl ?_
            refine lg_nil ?_
            refine nx (zk5 0 1 4 5 6 rfl rfl rfl rfl rfl (zk2 7 46 rfl rfl fn)) ?_
            refine cg_cf rfl ?_
            refine cg_skip ?_
            refine nx (zk3 4 5 6 rfl rfl rfl (zk1 7 rfl fn)) ?_
            refine cg_seq ?_
            refine cg_held (by kernel_rfl) fun W22 eW22 => ?_
            have dW22 := below_drew _ _ eW22
            have zW22 := size_drew _ _ eW22
            clear eW22
            refine zh 0 rfl rfl rfl rfl rfl (by kernel_rfl) (fun _ _ _ h => h) (fun q hq => y_move rfl rfl) ?_
            refine zh 1 rfl rfl rfl rfl rfl (by kernel_rfl) (fun _ _ _ h => h) (fun q hq => y_move rfl rfl) ?_
            refine hg_take 2 (by rfl) (want_t (dj := 65) (by rfl) (by kernel_rfl) rfl) (by rfl) rfl (by decide) (by kernel_rfl) (by kernel_rfl) (by kernel_rfl) (fun _ _ _ h => h) (Below.refl _ _) (fun q hq => y_move rfl rfl) ?_
            have m7 := m7.below (hw10.mono (by omega))
            have m7 := m7.below (dW22.mono (by omega))
            refine hg_take 3 (by rfl) (want_t (dj := 65) (by rfl) (by kernel_rfl) rfl) (by rfl) rfl (by decide) (by kernel_rfl) (by kernel_rfl) (by kernel_rfl) (fun _ _ _ h => h) (Below.refl _ _) (fun q hq => y_lenS (el := 5) m7 (by kernel_rfl) rfl rfl) ?_
            refine hg_take 4 (by rfl) (want_t (dj := 65) (by rfl) (by kernel_rfl) rfl) (by rfl) rfl (by decide) (by kernel_rfl) (by kernel_rfl) (by kernel_rfl) (fun _ _ _ h => h) (Below.refl _ _) (fun q hq => yb (decide_eq_true (show ((ofH (trAs Ls) x).length : Int) = 32 from (by rw [hox, hsL_len]; rfl))) (yi_eql rfl rfl rfl)) ?_
            refine zh 5 rfl rfl rfl rfl rfl (by kernel_rfl) (fun _ _ _ h => h) (fun q hq => y_pick true rfl rfl rfl) ?_
            refine zh 6 rfl rfl rfl rfl rfl (by kernel_rfl) (fun _ _ _ h => h) (fun q hq => y_move rfl rfl) ?_
            refine hg_take 7 (by rfl) (want_t (dj := 70) (by rfl) (by kernel_rfl) rfl) (by rfl) rfl (by decide) (by kernel_rfl) (by kernel_rfl) (by kernel_rfl) (fun _ _ _ h => h) (Below.refl _ _) (fun q hq => y_move rfl rfl) ?_
            have by23 : Bytes (ofH (trAs Ls) x) := m7.bytes
            refine hg_take 8 (by rfl) (want_t (dj := 70) (by rfl) (by kernel_rfl) rfl) (by rfl) rfl (by decide) (by kernel_rfl) (by kernel_rfl) (by kernel_rfl) (fun _ _ _ h => h) (Below.refl _ _) (fun q hq => y_strS (m7.below (hq.mono (by omega))) rfl rfl) ?_
            refine hg_take 9 (by rfl) (want_t (dj := 70) (by rfl) (by kernel_rfl) rfl) (by rfl) rfl (by decide) (by kernel_rfl) (by kernel_rfl) (by kernel_rfl) (fun _ _ _ h => h) (Below.refl _ _) (fun q hq => y_move rfl rfl) ?_
            have m10 := m10.below (dW22.mono (by omega))
            have u := u.trans (hw7.mono u.size)
            have u := u.trans (hw10.mono u.size)
            have u := u.trans (dW22.mono u.size)
            refine hg_one 10 (by rfl) (by kernel_rfl) (want_t (dj := 70) (by rfl) (by kernel_rfl) rfl) ?_
            refine lg_callw (want_t (dj := 70) (by rfl) (by kernel_rfl) rfl) (sumS_any (m10.more (B' := W22.heap.size) (by omega)) (Nat.le_refl _) (by first | omega | (simp only [List.length_append, List.length_cons, List.length_nil, numOct_length, flagOct_length]; omega)) (Tt.up u rg)) (by kernel_rfl) rfl rfl rfl (by decide) ?_
            rintro _ w24 ⟨r24, rfl, m24, hw24⟩
            have zw24 := hw24.size
            refine hg_next hw24 ?_
            refine hg_up hw24 ?_
            have by25 : Bytes (sumL (ofLeafO (x / 2) eL9)) := m24.1.bytes
            refine hg_take 11 (by rfl) (want_t (dj := 70) (by rfl) (by kernel_rfl) rfl) (by rfl) rfl (by decide) (by kernel_rfl) (by kernel_rfl) (by kernel_rfl) (fun _ _ _ h => h) (Below.refl _ _) (fun q hq => y_strS (m24.below hq).1 rfl rfl) ?_
            have f26 : (ofH (trAs Ls) x) = (sumL (ofLeafO (x / 2) eL9)) := (by rw [hox, hs_leaf hx he, atN_some eg9])
            refine hg_take 12 (by rfl) (want_t (dj := 70) (by rfl) (by kernel_rfl) rfl) (by rfl) rfl (by decide) (by kernel_rfl) (by kernel_rfl) (by kernel_rfl) (fun _ _ _ h => h) (Below.refl _ _) (fun q hq => yb (decide_eq_true f26) (y_seqS (xs := (ofH (trAs Ls) x)) (ys := (sumL (ofLeafO (x / 2) eL9))) by23 by25 rfl rfl rfl)) ?_
            refine zh 13 rfl rfl rfl rfl rfl (by kernel_rfl) (fun _ _ _ h => h) (fun q hq => y_pick true rfl rfl rfl) ?_
            refine zh 14 rfl rfl rfl rfl rfl (by kernel_rfl) (fun _ _ _ h => h) (fun q hq => y_assign rfl rfl) ?_
            refine hg_done (by kernel_rfl) ?_
            refine nx (zk1 4 rfl fn) ?_
            refine cg_ret ?_
            have u := u.trans (hw24.mono u.size)
            exact eg_ret_tmp rfl rfl ⟨_, rfl, rfl, u⟩
        · refine za rfl (yb (decide_eq_false c8) (y_call (isL_any x (Ls.length : Int) _) (by kernel_rfl) rfl rfl)) rfl rfl ?_
          refine za rfl (y_bnot rfl rfl) rfl rfl ?_
          refine lg_nil ?_
          refine nx (zk5 0 1 4 5 6 rfl rfl rfl rfl rfl (zk1 30 rfl fn)) ?_
          refine cg_ct rfl ?_
          refine cg_seq ?_
          refine cg_region ?_
          refine zM rfl rfl rfl rfl rfl ?_
          refine zM rfl rfl rfl rfl rfl ?_
          refine zt 32 rfl (by kernel_rfl) rfl (y_move rfl rfl) rfl rfl ?_
          refine zt 32 rfl (by kernel_rfl) rfl (y_lenS (el := 5) m7 (by kernel_rfl) rfl rfl) rfl rfl ?_
          refine zt 32 rfl (by kernel_rfl) rfl (yb (decide_eq_true (show ((ofH (trAs Ls) x).length : Int) = 0 from (by rw [hta, ofH_no c8]; rfl))) (yi_eql rfl rfl rfl)) rfl rfl ?_
          refine za rfl (y_pick true rfl rfl rfl) rfl rfl ?_
          refine zA rfl rfl rfl rfl rfl ?_
          refine lg_nil ?_
          refine nx (zk5 0 1 5 6 4 rfl rfl rfl rfl rfl fn) ?_
          refine cg_ret ?_
          refine eg_seq_ret ?_
          have u := u.trans (hw7.mono u.size)
          exact eg_ret_tmp rfl rfl ⟨_, rfl, rfl, u⟩
      · refine lg_callw (want_t (dj := 17) (by rfl) (by kernel_rfl) rfl) (sane_any (h.more (B' := w3.heap.size) (by omega)) (Nat.le_refl _)) (by kernel_rfl) rfl rfl rfl (by decide) ?_
        rintro u27 w27 ⟨e27, hw27⟩
        have zw27 := hw27.size
        obtain rfl : u27 = .bool false := e27.trans (congrArg Value.bool (decide_eq_false c5))
        refine zt 17 rfl (by kernel_rfl) rfl (y_bnot rfl rfl) rfl rfl ?_
        refine za rfl (y_pick false rfl rfl rfl) rfl rfl ?_
        refine lg_nil ?_
        refine nx (zk5 0 1 4 5 21 rfl rfl rfl rfl rfl fn) ?_
        refine cg_ct rfl ?_
        refine cg_seq ?_
        refine cg_region ?_
        refine zM rfl rfl rfl rfl rfl ?_
        refine zA rfl rfl rfl rfl rfl ?_
        refine lg_nil ?_
        refine nx (zk3 0 1 5 rfl rfl rfl (zk1 4 rfl fn)) ?_
        refine cg_ret ?_
        refine eg_seq_ret ?_
        have u := u.trans (hw1.mono u.size)
        have u := u.trans (hw3.mono u.size)
        have u := u.trans (hw27.mono u.size)
        exact eg_ret_tmp rfl rfl ⟨_, rfl, rfl, u⟩
  · refine lg_callw (want_none (by rfl)) (fewR_any (h.more (B' := w1.heap.size) (by omega)) (Nat.le_refl _)) (by kernel_rfl) rfl rfl rfl (by decide) ?_
    rintro u28 w28 ⟨e28, hw28⟩
    have zw28 := hw28.size
    obtain rfl : u28 = .bool false := e28.trans (congrArg Value.bool (decide_eq_false c2))
    refine za rfl (y_bnot rfl rfl) rfl rfl ?_
    refine zM rfl rfl rfl rfl rfl ?_
    refine zf 12 rfl (by kernel_rfl) rfl rfl rfl ?_
    refine zf 12 rfl (by kernel_rfl) rfl rfl rfl ?_
    refine zf 12 rfl (by kernel_rfl) rfl rfl rfl ?_
    refine za rfl (y_pick true rfl rfl rfl) rfl rfl ?_
    refine zM rfl rfl rfl rfl rfl ?_
    refine zf 17 rfl (by kernel_rfl) rfl rfl rfl ?_
    refine zf 17 rfl (by kernel_rfl) rfl rfl rfl ?_
    refine zf 17 rfl (by kernel_rfl) rfl rfl rfl ?_
    refine za rfl (y_pick true rfl rfl rfl) rfl rfl ?_
    refine lg_nil ?_
    refine nx (zk5 0 1 4 5 21 rfl rfl rfl rfl rfl fn) ?_
    refine cg_ct rfl ?_
    refine cg_seq ?_
    refine cg_region ?_
    refine zM rfl rfl rfl rfl rfl ?_
    refine zA rfl rfl rfl rfl rfl ?_
    refine lg_nil ?_
    refine nx (zk3 0 1 5 rfl rfl rfl (zk1 4 rfl fn)) ?_
    refine cg_ret ?_
    refine eg_seq_ret ?_
    have u := u.trans (hw1.mono u.size)
    have u := u.trans (hw28.mono u.size)
    exact eg_ret_tmp rfl rfl ⟨_, rfl, rfl, u⟩
end Go.Proofs.YtkcpmpbjjnknhaaGreatDoor
