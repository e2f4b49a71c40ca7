/-
  A greater tree has the same hashes ahead.
-/
import Derived.Test.YtkcpmpbjjnknhaaGreatDoorHsAwake
namespace Go.Proofs.YtkcpmpbjjnknhaaGreatDoor
open Go.ChangeShapes Go.WideShapes Go.ChangeAt Go.RowKit
set_option linter.unusedVariables false

set_option maxRecDepth 20000
theorem allH_getD {t : List Nd} {i : Nat} (h : i < t.length) : (allH t).getD i [] = hsL t (i : Int) := by
  rw [List.getD_eq_getElem?_getD, allH_at h]
  rfl
set_option maxHeartbeats 4000000 in
theorem hashGrows_any {W : World} {s : SlV} {Ls : List Nd} (h : RwNd W W.heap.size s Ls) (rg : Tt W) : Calls Tryz.prog 7 #[s.v] W fun e W' => ∃ v, e = .returned v ∧ v = .bool true ∧ Below W.heap.size W W' := by
  refine calls_cg (n := 78) Tryz.func7 rfl Tryz.ntmps7 (by simp) ?_
  show CG _ _ _ [(0, s.v)] _ _
  have u := Below.refl W.heap.size W
  have q1 := h.len
  have q2 := h.cap
  refine cg_seq ?_
  refine cg_region ?_
  refine zA rfl rfl rfl rfl rfl ?_
  refine lg_nil ?_
  refine nx (zk2 0 2 rfl rfl fn) ?_
  refine cg_seq ?_
  refine cg_region ?_
  refine lg_callw (want_none (by rfl)) (awakeH_any _ (Tt.up u rg)) (by kernel_rfl) rfl rfl rfl (by decide) ?_
  rintro _ w1 ⟨rfl, hw1⟩
  have zw1 := hw1.size
  refine zA rfl rfl rfl rfl rfl ?_
  refine lg_nil ?_
  refine nx (zk3 0 2 3 rfl rfl rfl fn) ?_
  refine cg_seq ?_
  refine cg_seq ?_
  refine cg_region ?_
  refine zM rfl rfl rfl rfl rfl ?_
  have h := h.below (hw1.mono (by omega))
  by_cases c2 : trFew Ls
  · refine lg_callw (want_none (by rfl)) (fewR_any (h.more (B' := w1.heap.size) (by omega)) (Nat.le_refl _)) (by kernel_rfl) rfl rfl rfl (by decide) ?_
    rintro u3 w3 ⟨e3, hw3⟩
    have zw3 := hw3.size
    obtain rfl : u3 = .bool true := e3.trans (congrArg Value.bool (decide_eq_true c2))
    refine za rfl (y_bnot rfl rfl) rfl rfl ?_
    refine zM rfl rfl rfl rfl rfl ?_
    refine zt 13 rfl (by kernel_rfl) rfl (y_move rfl rfl) rfl rfl ?_
    have h := h.below (hw3.mono (by omega))
    refine zt 13 rfl (by kernel_rfl) rfl (y_lenM (el := 40) h.len (by kernel_rfl) rfl rfl) rfl rfl ?_
    by_cases c4 : 20 < (Ls.length : Int)
    · refine zt 13 rfl (by kernel_rfl) rfl (yb (decide_eq_true c4) (yi_gtr rfl rfl rfl)) rfl rfl ?_
      refine za rfl (y_pick false rfl rfl rfl) rfl rfl ?_
      refine zM rfl rfl rfl rfl rfl ?_
      refine zf 18 rfl (by kernel_rfl) rfl rfl rfl ?_
      refine zf 18 rfl (by kernel_rfl) rfl rfl rfl ?_
      refine zf 18 rfl (by kernel_rfl) rfl rfl rfl ?_
      refine za rfl (y_pick true rfl rfl rfl) rfl rfl ?_
      refine lg_nil ?_
      refine nx (zk3 0 2 3 rfl rfl rfl (zk1 22 rfl fn)) ?_
      refine cg_ct rfl ?_
      refine cg_seq ?_
      refine cg_region ?_
      refine zM rfl rfl rfl rfl rfl ?_
      refine zA rfl rfl rfl rfl rfl ?_
      refine lg_nil ?_
      refine nx (zk3 0 3 2 rfl rfl rfl fn) ?_
      refine cg_ret ?_
      refine eg_seq_ret ?_
      have u := u.trans (hw1.mono u.size)
      have u := u.trans (hw3.mono u.size)
      exact eg_ret_tmp rfl rfl ⟨_, rfl, rfl, u⟩
    · refine zt 13 rfl (by kernel_rfl) rfl (yb (decide_eq_false c4) (yi_gtr rfl rfl rfl)) rfl rfl ?_
      refine za rfl (y_pick false rfl rfl rfl) rfl rfl ?_
      refine zM rfl rfl rfl rfl rfl ?_
      refine zt 18 rfl (by kernel_rfl) rfl (y_move rfl rfl) rfl rfl ?_
      by_cases c5 : trIs Ls
      · have htr := c5
        have htl := trIs_le htr
        have hta := trAs_ok htr
        refine lg_callw (want_t (dj := 18) (by rfl) (by kernel_rfl) rfl) (sane_any (h.more (B' := w3.heap.size) (by omega)) (Nat.le_refl _)) (by kernel_rfl) rfl rfl rfl (by decide) ?_
        rintro u6 w6 ⟨e6, hw6⟩
        have zw6 := hw6.size
        obtain rfl : u6 = .bool true := e6.trans (congrArg Value.bool (decide_eq_true c5))
        refine zt 18 rfl (by kernel_rfl) rfl (y_bnot rfl rfl) rfl rfl ?_
        refine za rfl (y_pick false rfl rfl rfl) rfl rfl ?_
        refine lg_nil ?_
        refine nx (zk3 0 2 3 rfl rfl rfl (zk1 22 rfl fn)) ?_
        refine cg_cf rfl ?_
        refine cg_skip ?_
        refine nx (zk3 0 2 3 rfl rfl rfl fn) ?_
        refine cg_seq ?_
        refine cg_region ?_
        refine zM rfl rfl rfl rfl rfl ?_
        have h := h.below (hw6.mono (by omega))
        refine lg_callw (want_none (by rfl)) (grow_any (h.more (B' := w6.heap.size) (by omega)) (Nat.le_refl _)) (by kernel_rfl) rfl rfl rfl (by decide) ?_
        rintro _ w7 ⟨s7, rfl, m7, hw7⟩
        have zw7 := hw7.size
        refine zM rfl rfl rfl rfl rfl ?_
        refine za rfl (y_extract rfl rfl rfl) rfl rfl ?_
        refine za rfl (y_extract rfl rfl rfl) rfl rfl ?_
        refine zA rfl rfl rfl rfl rfl ?_
        refine zA rfl rfl rfl rfl rfl ?_
        refine lg_nil ?_
        refine nx (zk5 0 2 3 4 5 rfl rfl rfl rfl rfl fn) ?_
        refine cg_seq ?_
        refine cg_seq ?_
        refine cg_region ?_
        refine zM rfl rfl rfl rfl rfl ?_
        by_cases c8 : (growE Ls) = 0
        · obtain ⟨gl, gw, gat⟩ := grown htr c8
          have hga := trAs_ok (trIs_growL Ls)
          refine za rfl (yb (nd_f c8) (yi_neq rfl rfl rfl)) rfl rfl ?_
          refine lg_nil ?_
          refine nx (zk5 0 2 3 4 30 rfl rfl rfl rfl rfl fn) ?_
          refine cg_cf rfl ?_
          refine cg_skip ?_
          refine nx (zk3 0 2 3 rfl rfl rfl (zk1 4 rfl fn)) ?_
          refine cg_seq ?_
          refine cg_region ?_
          refine zM rfl rfl rfl rfl rfl ?_
          have h := h.below (hw7.mono (by omega))
          have u := u.trans (hw1.mono u.size)
          have u := u.trans (hw3.mono u.size)
          have u := u.trans (hw6.mono u.size)
          have u := u.trans (hw7.mono u.size)
          refine lg_callw (want_none (by rfl)) (all_any (h.more (B' := w7.heap.size) (by omega)) (Nat.le_refl _) (Tt.up u rg)) (by kernel_rfl) rfl rfl rfl (by decide) ?_
          rintro _ w9 ⟨r9, rfl, m9, hw9⟩
          have zw9 := hw9.size
          refine zA rfl rfl rfl rfl rfl ?_
          refine lg_nil ?_
          refine nx (zk5 0 2 3 4 6 rfl rfl rfl rfl rfl fn) ?_
          refine cg_seq ?_
          refine cg_region ?_
          refine zM rfl rfl rfl rfl rfl ?_
          have m7 := m7.below (hw9.mono (by omega))
          have u := u.trans (hw9.mono u.size)
          refine lg_callw (want_none (by rfl)) (all_any (m7.more (B' := w9.heap.size) (by omega)) (Nat.le_refl _) (Tt.up u rg)) (by kernel_rfl) rfl rfl rfl (by decide) ?_
          rintro _ w10 ⟨r10, rfl, m10, hw10⟩
          have zw10 := hw10.size
          refine zA rfl rfl rfl rfl rfl ?_
          refine lg_nil ?_
          refine nx (zk5 0 2 3 4 6 rfl rfl rfl rfl rfl (zk1 7 rfl fn)) ?_
          refine cg_seq ?_
          refine cg_seq ?_
          refine cg_region ?_
          refine zM rfl rfl rfl rfl rfl ?_
          have m9 := m9.below (hw10.mono (by omega))
          refine za rfl (yv (congrArg nv (show (((allH (trAs Ls)).length : Nat) : Int) = (Ls.length : Int) by rw [hta, allH_len])) (y_lenM (el := 26) m9.len (by kernel_rfl) rfl rfl)) rfl rfl ?_
          refine zM rfl rfl rfl rfl rfl ?_
          have h := h.below (hw9.mono (by omega))
          have h := h.below (hw10.mono (by omega))
          refine za rfl (y_lenM (el := 40) h.len (by kernel_rfl) rfl rfl) rfl rfl ?_
          refine za rfl (yb (nd_f rfl) (yi_neq rfl rfl rfl)) rfl rfl ?_
          refine zM rfl rfl rfl rfl rfl ?_
          refine zt 41 rfl (by kernel_rfl) rfl (y_move rfl rfl) rfl rfl ?_
          refine zt 41 rfl (by kernel_rfl) rfl (yv (congrArg nv (show (((allH (trAs (growL Ls))).length : Nat) : Int) = ((growL Ls).length : Int) by rw [hga, allH_len])) (y_lenM (el := 26) m10.len (by kernel_rfl) rfl rfl)) rfl rfl ?_
          refine zt 41 rfl (by kernel_rfl) rfl (y_move rfl rfl) rfl rfl ?_
          have m7 := m7.below (hw10.mono (by omega))
          refine zt 41 rfl (by kernel_rfl) rfl (y_lenM (el := 40) m7.len (by kernel_rfl) rfl rfl) rfl rfl ?_
          refine zt 41 rfl (by kernel_rfl) rfl (yb (nd_f rfl) (yi_neq rfl rfl rfl)) rfl rfl ?_
          refine za rfl (y_pick false rfl rfl rfl) rfl rfl ?_
          refine lg_nil ?_
          refine nx (zk5 2 3 4 6 7 rfl rfl rfl rfl rfl (zk1 47 rfl fn)) ?_
          refine cg_cf rfl ?_
          refine cg_skip ?_
          refine nx (zk5 2 3 4 6 7 rfl rfl rfl rfl rfl fn) ?_
          refine cg_seq ?_
          refine cg_seq ?_
          refine cg_region ?_
          refine zA rfl rfl rfl rfl rfl ?_
          refine lg_nil ?_
          refine nx (zk5 2 3 4 6 7 rfl rfl rfl rfl rfl (zk1 8 rfl fn)) ?_
          refine cg_block ?_
          obtain ⟨C, hC⟩ : ∃ q, q = w10.heap.size := ⟨_, rfl⟩
          have u := u.trans (hw10.mono u.size)
          refine cg_loopE (fun t a v => Holds 78 [(3, .bool true), (4, s7.v), (6, r9.v), (7, r10.v), (8, nv ((t : Nat) : Int))] a ∧ RwNd v W.heap.size s Ls ∧ Below W.heap.size W v ∧ C ≤ v.heap.size ∧ W.heap.size ≤ C ∧ RwNd v C s7 (growL Ls) ∧ RwOc v C r9 (allH (trAs Ls)) ∧ RwOc v C r10 (allH (trAs (growL Ls))) ∧ t ≤ Ls.length) (Ls.length + 1) (fun a ha => ⟨ha.keep (fk rfl (fk rfl (fk rfl (fk rfl (fk rfl fn))))), h, u, (Nat.le_of_eq hC), (by omega), (m7.more (by omega)), (m9.more (by omega)), (m10.more (by omega)), (Nat.zero_le _)⟩) ?_
          rintro t a v ht ⟨ha, h, u, cC, cW, hg, ho, hp, tle⟩
          refine cg_at ha ?_
          clear ha a
          have zv := u.size
          have q1 := h.len
          have q2 := h.cap
          have q5 := hg.len
          have q6 := hg.cap
          have q7 := ho.len
          have q8 := ho.cap
          have q9 := hp.len
          have qa := hp.cap
          refine cg_seq ?_
          refine cg_seq ?_
          refine cg_region ?_
          refine zM rfl rfl rfl rfl rfl ?_
          refine zM rfl rfl rfl rfl rfl ?_
          refine za rfl (yv (congrArg nv (show (((allH (trAs Ls)).length : Nat) : Int) = (Ls.length : Int) by rw [hta, allH_len])) (y_lenM (el := 26) ho.len (by kernel_rfl) rfl rfl)) rfl rfl ?_
          by_cases c11 : ((t : Nat) : Int) < (Ls.length : Int)
          · have htn : t < Ls.length := by omega
            have hx := isN_of htr (x := (t : Int)) (by omega) (by omega)
            have hxg := isN_of (trIs_growL Ls) (x := (t : Int)) (by omega) (by omega)
            have e1 : (allH (trAs Ls)).getD t [] = hsL Ls t := by rw [hta]; exact allH_getD htn
            have e2 : (allH (trAs (growL Ls))).getD t [] = hsL Ls t := by rw [hga, allH_getD (by omega)]; exact hs_grown gl gw gat hx
            have al1 : (allH (trAs Ls)).length = Ls.length := by rw [hta, allH_len]
            have al2 : (allH (trAs (growL Ls))).length = (growL Ls).length := by rw [hga, allH_len]
            refine za rfl (yb (decide_eq_true c11) (yi_lss rfl rfl rfl)) rfl rfl ?_
            refine lg_nil ?_
            refine nx (zk5 3 4 6 7 8 rfl rfl rfl rfl rfl (zk1 51 rfl fn)) ?_
            refine cg_ct rfl ?_
            refine cg_skip ?_
            refine nx (zk5 3 4 6 7 8 rfl rfl rfl rfl rfl fn) ?_
            refine cg_seq ?_
            refine cg_block ?_
            refine cg_seq ?_
            refine cg_held (by kernel_rfl) fun W12 eW12 => ?_
            have dW12 := below_drew _ _ eW12
            have zW12 := size_drew _ _ eW12
            clear eW12
            refine zh 0 rfl rfl rfl rfl rfl (by kernel_rfl) (fun _ _ _ h => h) (fun q hq => y_move rfl rfl) ?_
            refine zh 1 rfl rfl rfl rfl rfl (by kernel_rfl) (fun _ _ _ h => h) (fun q hq => y_move rfl rfl) ?_
            have ho := ho.below (dW12.mono (by omega))
            obtain ⟨eb13, eo13, er13, eA13, eB13, eh13, ec13⟩ := ho.at (t) (by have := ho.len; first | omega | (simp only [allH_len, allN_len, List.length_append, List.length_cons, List.length_nil] at this; omega))
            refine zh 2 rfl rfl rfl rfl rfl (by kernel_rfl) (fun _ _ _ h => h) (fun q hq => y_ixR (s := r9) (el := 26) (k := 1) (i := t) (iI := ((t : Nat) : Int)) eA13 (by kernel_rfl) (by kernel_rfl) (by omega) (by have := ho.len; first | omega | (simp only [allH_len, allN_len, List.length_append, List.length_cons, List.length_nil] at this; omega)) rfl rfl rfl) ?_
            refine zh 3 rfl rfl rfl rfl rfl (by kernel_rfl) (fun _ _ _ h => h) (fun q hq => y_celld ((hq.cell (p := ⟨eb13, _, none⟩) (show eb13 < _ by omega)).trans (ec13)) (by kernel_rfl) rfl rfl) ?_
            have by14 : Bytes ((allH (trAs Ls)).getD t []) := eh13.bytes
            refine zh 4 rfl rfl rfl rfl rfl (by kernel_rfl) (fun _ _ _ h => h) (fun q hq => y_strS (eh13.below (hq.mono (by omega))) rfl rfl) ?_
            refine zh 5 rfl rfl rfl rfl rfl (by kernel_rfl) (fun _ _ _ h => h) (fun q hq => y_move rfl rfl) ?_
            refine zh 6 rfl rfl rfl rfl rfl (by kernel_rfl) (fun _ _ _ h => h) (fun q hq => y_move rfl rfl) ?_
            have hp := hp.below (dW12.mono (by omega))
            obtain ⟨eb15, eo15, er15, eA15, eB15, eh15, ec15⟩ := hp.at (t) (by have := hp.len; first | omega | (simp only [allH_len, allN_len, List.length_append, List.length_cons, List.length_nil] at this; omega))
            refine zh 7 rfl rfl rfl rfl rfl (by kernel_rfl) (fun _ _ _ h => h) (fun q hq => y_ixR (s := r10) (el := 26) (k := 1) (i := t) (iI := ((t : Nat) : Int)) eA15 (by kernel_rfl) (by kernel_rfl) (by omega) (by have := hp.len; first | omega | (simp only [allH_len, allN_len, List.length_append, List.length_cons, List.length_nil] at this; omega)) rfl rfl rfl) ?_
            refine zh 8 rfl rfl rfl rfl rfl (by kernel_rfl) (fun _ _ _ h => h) (fun q hq => y_celld ((hq.cell (p := ⟨eb15, _, none⟩) (show eb15 < _ by omega)).trans (ec15)) (by kernel_rfl) rfl rfl) ?_
            have by16 : Bytes ((allH (trAs (growL Ls))).getD t []) := eh15.bytes
            refine zh 9 rfl rfl rfl rfl rfl (by kernel_rfl) (fun _ _ _ h => h) (fun q hq => y_strS (eh15.below (hq.mono (by omega))) rfl rfl) ?_
            refine zh 10 rfl rfl rfl rfl rfl (by kernel_rfl) (fun _ _ _ h => h) (fun q hq => yb (nd_f (show ((allH (trAs Ls)).getD t []) = ((allH (trAs (growL Ls))).getD t []) from (e1.trans e2.symm))) (y_sneS (xs := ((allH (trAs Ls)).getD t [])) (ys := ((allH (trAs (growL Ls))).getD t [])) by14 by16 rfl rfl rfl)) ?_
            refine zh 11 rfl rfl rfl rfl rfl (by kernel_rfl) (fun _ _ _ h => h) (fun q hq => y_move rfl rfl) ?_
            refine hg_take 12 (by rfl) (want_t (dj := 65) (by rfl) (by kernel_rfl) rfl) (by rfl) rfl (by decide) (by kernel_rfl) (by kernel_rfl) (by kernel_rfl) (fun _ _ _ h => h) (Below.refl _ _) (fun q hq => y_move rfl rfl) ?_
            refine hg_take 13 (by rfl) (want_t (dj := 65) (by rfl) (by kernel_rfl) rfl) (by rfl) rfl (by decide) (by kernel_rfl) (by kernel_rfl) (by kernel_rfl) (fun _ _ _ h => h) (Below.refl _ _) (fun q hq => y_move rfl rfl) ?_
            refine hg_take 16 (by rfl) (want_t (dj := 65) (by rfl) (by kernel_rfl) rfl) (by rfl) rfl (by decide) (by kernel_rfl) (by kernel_rfl) (by kernel_rfl) (fun _ _ _ h => h) (Below.refl _ _) (fun q hq => y_move rfl rfl) ?_
            refine hg_take 17 (by rfl) (want_t (dj := 65) (by rfl) (by kernel_rfl) rfl) (by rfl) rfl (by decide) (by kernel_rfl) (by kernel_rfl) (by kernel_rfl) (fun _ _ _ h => h) (Below.refl _ _) (fun q hq => y_move rfl rfl) ?_
            obtain ⟨eb17, eo17, er17, eA17, eB17, eh17, ec17⟩ := hp.at (t) (by have := hp.len; first | omega | (simp only [allH_len, allN_len, List.length_append, List.length_cons, List.length_nil] at this; omega))
            refine hg_take 18 (by rfl) (want_t (dj := 65) (by rfl) (by kernel_rfl) rfl) (by rfl) rfl (by decide) (by kernel_rfl) (by kernel_rfl) (by kernel_rfl) (fun _ _ _ h => h) (Below.refl _ _) (fun q hq => y_ixR (s := r10) (el := 26) (k := 1) (i := t) (iI := ((t : Nat) : Int)) eA17 (by kernel_rfl) (by kernel_rfl) (by omega) (by have := hp.len; first | omega | (simp only [allH_len, allN_len, List.length_append, List.length_cons, List.length_nil] at this; omega)) rfl rfl rfl) ?_
            refine hg_take 19 (by rfl) (want_t (dj := 65) (by rfl) (by kernel_rfl) rfl) (by rfl) rfl (by decide) (by kernel_rfl) (by kernel_rfl) (by kernel_rfl) (fun _ _ _ h => h) (Below.refl _ _) (fun q hq => y_celld ((hq.cell (p := ⟨eb17, _, none⟩) (show eb17 < _ by omega)).trans (ec17)) (by kernel_rfl) rfl rfl) ?_
            have by18 : Bytes ((allH (trAs (growL Ls))).getD t []) := eh17.bytes
            refine hg_take 20 (by rfl) (want_t (dj := 65) (by rfl) (by kernel_rfl) rfl) (by rfl) rfl (by decide) (by kernel_rfl) (by kernel_rfl) (by kernel_rfl) (fun _ _ _ h => h) (Below.refl _ _) (fun q hq => y_strS (eh17.below (hq.mono (by omega))) rfl rfl) ?_
            have hg := hg.below (dW12.mono (by omega))
            have u := u.trans (dW12.mono u.size)
            refine hg_one 14 (by rfl) (by kernel_rfl) (want_t (dj := 65) (by rfl) (by kernel_rfl) rfl) ?_
            refine lg_callw (want_t (dj := 65) (by rfl) (by kernel_rfl) rfl) (of_any (hg.more (B' := W12.heap.size) (by omega)) ((t : Nat) : Int) (Nat.le_refl _) (Tt.up u rg)) (by kernel_rfl) rfl rfl rfl (by decide) ?_
            rintro _ w19 ⟨r19, rfl, m19, hw19⟩
            have zw19 := hw19.size
            have ol19 := ofH_len (trAs (growL Ls)) ((t : Nat) : Int)
            refine hg_next hw19 ?_
            refine hg_up hw19 ?_
            have by20 : Bytes (ofH (trAs (growL Ls)) ((t : Nat) : Int)) := m19.bytes
            refine hg_take 15 (by rfl) (want_t (dj := 65) (by rfl) (by kernel_rfl) rfl) (by rfl) rfl (by decide) (by kernel_rfl) (by kernel_rfl) (by kernel_rfl) (fun _ _ _ h => h) (Below.refl _ _) (fun q hq => y_strS (m19.below (hq.mono (by omega))) rfl rfl) ?_
            refine hg_take 21 (by rfl) (want_t (dj := 65) (by rfl) (by kernel_rfl) rfl) (by rfl) rfl (by decide) (by kernel_rfl) (by kernel_rfl) (by kernel_rfl) (fun _ _ _ h => h) (Below.refl _ _) (fun q hq => yb (nd_f (show (ofH (trAs (growL Ls)) ((t : Nat) : Int)) = ((allH (trAs (growL Ls))).getD t []) from (by rw [e2, hga, ofH_yes hxg]; exact hs_grown gl gw gat hx))) (y_sneS (xs := (ofH (trAs (growL Ls)) ((t : Nat) : Int))) (ys := ((allH (trAs (growL Ls))).getD t [])) by20 by18 rfl rfl rfl)) ?_
            refine zh 22 rfl rfl rfl rfl rfl (by kernel_rfl) (fun _ _ _ h => h) (fun q hq => y_pick false rfl rfl rfl) ?_
            refine hg_done (by kernel_rfl) ?_
            refine nx (zk5 3 4 6 7 8 rfl rfl rfl rfl rfl (zk1 76 rfl fn)) ?_
            refine cg_cf rfl ?_
            refine cg_skip ?_
            refine eg_block_norm ?_
            refine nx (zk5 3 4 6 7 8 rfl rfl rfl rfl rfl fn) ?_
            refine cg_region ?_
            refine zM rfl rfl rfl rfl rfl ?_
            refine za rfl (yv (congrArg nv (show ((t : Nat) : Int) + 1 = ((t + 1 : Nat) : Int) by omega)) (yi_add rfl rfl rfl (by omega) (by omega))) rfl rfl ?_
            refine zA rfl rfl rfl rfl rfl ?_
            refine lg_nil ?_
            have h := h.below (dW12.mono (by omega))
            have h := h.below (hw19.mono (by omega))
            have u := u.trans (hw19.mono u.size)
            have cC := (show C ≤ W12.heap.size by omega)
            have cC := (show C ≤ w19.heap.size by omega)
            have cW := cW
            have cW := cW
            have hg := hg.below (hw19.mono (by omega))
            have ho := ho.below (hw19.mono (by omega))
            have hp := hp.below (hw19.mono (by omega))
            exact fun a ha => (show t < (Ls.length + 1) ∧ _ from ⟨(by omega), ha.keep (fk rfl (fk rfl (fk rfl (fk rfl (fk rfl fn))))), h, u, cC, cW, hg, ho, hp, (by omega)⟩)
          · refine za rfl (yb (decide_eq_false c11) (yi_lss rfl rfl rfl)) rfl rfl ?_
            refine lg_nil ?_
            refine nx (zk5 3 4 6 7 8 rfl rfl rfl rfl rfl (zk1 51 rfl fn)) ?_
            refine cg_cf rfl ?_
            refine cg_exit ?_
            refine eg_seq_exit ?_
            refine eg_seq_exit ?_
            refine eg_block_exit ?_
            refine nx (zk1 3 rfl fn) ?_
            refine cg_seq ?_
            refine cg_region ?_
            refine zM rfl rfl rfl rfl rfl ?_
            refine zA rfl rfl rfl rfl rfl ?_
            refine lg_nil ?_
            refine nx (zk1 2 rfl fn) ?_
            refine cg_ret ?_
            exact eg_ret_tmp rfl rfl ⟨_, rfl, rfl, u⟩
        · refine za rfl (yb (nd_t c8) (yi_neq rfl rfl rfl)) rfl rfl ?_
          refine lg_nil ?_
          refine nx (zk5 0 2 3 4 30 rfl rfl rfl rfl rfl fn) ?_
          refine cg_ct rfl ?_
          refine cg_seq ?_
          refine cg_region ?_
          refine zM rfl rfl rfl rfl rfl ?_
          refine zA rfl rfl rfl rfl rfl ?_
          refine lg_nil ?_
          refine nx (zk3 0 3 4 rfl rfl rfl (zk1 2 rfl fn)) ?_
          refine cg_ret ?_
          refine eg_seq_ret ?_
          have u := u.trans (hw1.mono u.size)
          have u := u.trans (hw3.mono u.size)
          have u := u.trans (hw6.mono u.size)
          have u := u.trans (hw7.mono u.size)
          exact eg_ret_tmp rfl rfl ⟨_, rfl, rfl, u⟩
      · refine lg_callw (want_t (dj := 18) (by rfl) (by kernel_rfl) rfl) (sane_any (h.more (B' := w3.heap.size) (by omega)) (Nat.le_refl _)) (by kernel_rfl) rfl rfl rfl (by decide) ?_
        rintro u21 w21 ⟨e21, hw21⟩
        have zw21 := hw21.size
        obtain rfl : u21 = .bool false := e21.trans (congrArg Value.bool (decide_eq_false c5))
        refine zt 18 rfl (by kernel_rfl) rfl (y_bnot rfl rfl) rfl rfl ?_
        refine za rfl (y_pick false rfl rfl rfl) rfl rfl ?_
        refine lg_nil ?_
        refine nx (zk3 0 2 3 rfl rfl rfl (zk1 22 rfl fn)) ?_
        refine cg_ct rfl ?_
        refine cg_seq ?_
        refine cg_region ?_
        refine zM rfl rfl rfl rfl rfl ?_
        refine zA rfl rfl rfl rfl rfl ?_
        refine lg_nil ?_
        refine nx (zk3 0 3 2 rfl rfl rfl fn) ?_
        refine cg_ret ?_
        refine eg_seq_ret ?_
        have u := u.trans (hw1.mono u.size)
        have u := u.trans (hw3.mono u.size)
        have u := u.trans (hw21.mono u.size)
        exact eg_ret_tmp rfl rfl ⟨_, rfl, rfl, u⟩
  · refine lg_callw (want_none (by rfl)) (fewR_any (h.more (B' := w1.heap.size) (by omega)) (Nat.le_refl _)) (by kernel_rfl) rfl rfl rfl (by decide) ?_
    rintro u22 w22 ⟨e22, hw22⟩
    have zw22 := hw22.size
    obtain rfl : u22 = .bool false := e22.trans (congrArg Value.bool (decide_eq_false c2))
    refine za rfl (y_bnot rfl rfl) rfl rfl ?_
    refine zM rfl rfl rfl rfl rfl ?_
    refine zf 13 rfl (by kernel_rfl) rfl rfl rfl ?_
    refine zf 13 rfl (by kernel_rfl) rfl rfl rfl ?_
    refine zf 13 rfl (by kernel_rfl) rfl rfl rfl ?_
    refine za rfl (y_pick true rfl rfl rfl) rfl rfl ?_
    refine zM rfl rfl rfl rfl rfl ?_
    refine zf 18 rfl (by kernel_rfl) rfl rfl rfl ?_
    refine zf 18 rfl (by kernel_rfl) rfl rfl rfl ?_
    refine zf 18 rfl (by kernel_rfl) rfl rfl rfl ?_
    refine za rfl (y_pick true rfl rfl rfl) rfl rfl ?_
    refine lg_nil ?_
    refine nx (zk3 0 2 3 rfl rfl rfl (zk1 22 rfl fn)) ?_
    refine cg_ct rfl ?_
    refine cg_seq ?_
    refine cg_region ?_
    refine zM rfl rfl rfl rfl rfl ?_
    refine zA rfl rfl rfl rfl rfl ?_
    refine lg_nil ?_
    refine nx (zk3 0 3 2 rfl rfl rfl fn) ?_
    refine cg_ret ?_
    refine eg_seq_ret ?_
    have u := u.trans (hw1.mono u.size)
    have u := u.trans (hw22.mono u.size)
    exact eg_ret_tmp rfl rfl ⟨_, rfl, rfl, u⟩
end Go.Proofs.YtkcpmpbjjnknhaaGreatDoor
