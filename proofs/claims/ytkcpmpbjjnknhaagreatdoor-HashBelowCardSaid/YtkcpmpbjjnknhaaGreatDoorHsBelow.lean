/-
  A hash hangs on what is below alone.
-/
import Derived.Test.YtkcpmpbjjnknhaaGreatDoorHsAwake
namespace Go.Proofs.YtkcpmpbjjnknhaaGreatDoor
open Go.ChangeShapes Go.WideShapes Go.ChangeAt Go.RowKit
set_option linter.unusedVariables false

set_option maxRecDepth 20000
theorem allH_getD {t : List Nd} {i : Nat} (h : i < t.length) : (allH t).getD i [] = hsL t (i : Int) := by
  rw [List.getD_eq_getElem?_getD, allH_at h]
  rfl
theorem nd_same_eq {a b : Nd} (h : NdSame a b) : a = b := by
  obtain ⟨k, f, i⟩ := a
  obtain ⟨k', f', i'⟩ := b
  obtain ⟨h1, h2, h3⟩ := h
  obtain rfl := pn_eq h3
  obtain ⟨e1, e2, e3, e4⟩ := f
  obtain ⟨e1', e2', e3', e4'⟩ := f'
  obtain ⟨g1, g2, g3, g4⟩ := h2
  simp only at h1 g1 g2 g3 g4
  subst h1
  subst g1
  subst g2
  subst g3
  subst g4
  rfl
theorem set_same {t : List Nd} {i : Nat} {L M : Nd} (hg : t[i]? = some M) (h : NdSame L M) : t.set i L = t := by
  rw [nd_same_eq h]
  refine List.ext_getElem? fun j => ?_
  rw [List.getElem?_set]
  split
  · rename_i e
    subst e
    have hi := (List.getElem?_eq_some_iff.1 hg).1
    rw [if_pos hi, hg]
  · rfl
theorem set_ok {t : List Nd} (ht : trIs t) {x : Int} {L : Nd} (h : setE t x L = 0) : isN x (t.length : Int) ∧ okAt x.toNat L ∧ setL t x L = t.set x.toNat L := by
  have h2 := h
  unfold setE at h
  rw [trAs_ok ht] at h
  split at h
  · exact absurd h (by decide)
  · rename_i q
    have hx : isN x (t.length : Int) := Classical.byContradiction fun z => q (by first | exact z | exact Classical.byContradiction fun y => z (isN_of ht (by omega) (by omega)))
    split at h
    · rename_i e
      exact absurd h e
    · rename_i e
      split at h
      · exact absurd h (by decide)
      · rename_i f
        refine ⟨hx, ⟨Classical.not_not.1 e, Classical.not_not.1 f⟩, ?_⟩
        unfold setL
        rw [if_pos h2, trAs_ok ht]
set_option maxHeartbeats 4000000 in
theorem hashBelow_any {W : World} {s : SlV} {Ls : List Nd} (h : RwNd W W.heap.size s Ls) (x : Int) {l : NdV} {L : Nd} (hl : IsNd W W.heap.size l L) (rg : Tt W) : Calls Tryz.prog 4 #[s.v, nv x, .agg (l.cs L)] W fun e W' => ∃ v, e = .returned v ∧ v = .bool true ∧ Below W.heap.size W W' := by
  refine calls_cg (n := 90) Tryz.func4 rfl Tryz.ntmps4 (by simp) ?_
  show CG _ _ _ [(0, s.v), (1, nv x), (2, .agg (l.cs L))] _ _
  have u := Below.refl W.heap.size W
  have q1 := h.len
  have q2 := h.cap
  refine cg_seq ?_
  refine cg_region ?_
  refine lg_boxw (want_none (by rfl)) rfl rfl (by kernel_rfl) rfl (by decide) fun b1 w1 n1 => ?_
  have r1 := n1.row
  have k1 := n1.blk
  have z1 := n1.size
  have lt1 : b1 < w1.heap.size := by omega
  refine zA rfl rfl rfl rfl rfl ?_
  refine lg_nil ?_
  refine nx (zk3 0 1 5 rfl rfl rfl (zk1 6 rfl fn)) ?_
  refine cg_seq ?_
  refine cg_region ?_
  have u := u.trans (n1.below.mono u.size)
  refine lg_callw (want_none (by rfl)) (awakeH_any _ (Tt.up u rg)) (by kernel_rfl) rfl rfl rfl (by decide) ?_
  rintro _ w2 ⟨rfl, hw2⟩
  have zw2 := hw2.size
  refine zA rfl rfl rfl rfl rfl ?_
  refine lg_nil ?_
  refine nx (zk5 0 1 5 6 7 rfl rfl rfl rfl rfl fn) ?_
  refine cg_seq ?_
  refine cg_seq ?_
  refine cg_region ?_
  refine zM rfl rfl rfl rfl rfl ?_
  have h := h.below (n1.below.mono (by omega))
  have h := h.below (hw2.mono (by omega))
  by_cases c3 : trFew Ls
  · refine lg_callw (want_none (by rfl)) (fewR_any (h.more (B' := w2.heap.size) (by omega)) (Nat.le_refl _)) (by kernel_rfl) rfl rfl rfl (by decide) ?_
    rintro u4 w4 ⟨e4, hw4⟩
    have zw4 := hw4.size
    obtain rfl : u4 = .bool true := e4.trans (congrArg Value.bool (decide_eq_true c3))
    refine za rfl (y_bnot rfl rfl) rfl rfl ?_
    refine zM rfl rfl rfl rfl rfl ?_
    refine zt 18 rfl (by kernel_rfl) rfl (y_move rfl rfl) rfl rfl ?_
    have h := h.below (hw4.mono (by omega))
    refine zt 18 rfl (by kernel_rfl) rfl (y_lenM (el := 40) h.len (by kernel_rfl) rfl rfl) rfl rfl ?_
    by_cases c5 : 40 < (Ls.length : Int)
    · refine zt 18 rfl (by kernel_rfl) rfl (yb (decide_eq_true c5) (yi_gtr rfl rfl rfl)) rfl rfl ?_
      refine za rfl (y_pick false rfl rfl rfl) rfl rfl ?_
      refine zM rfl rfl rfl rfl rfl ?_
      refine zf 23 rfl (by kernel_rfl) rfl rfl rfl ?_
      refine zf 23 rfl (by kernel_rfl) rfl rfl rfl ?_
      refine zf 23 rfl (by kernel_rfl) rfl rfl rfl ?_
      refine za rfl (y_pick true rfl rfl rfl) rfl rfl ?_
      refine lg_nil ?_
      refine nx (zk5 0 1 5 6 7 rfl rfl rfl rfl rfl (zk1 27 rfl fn)) ?_
      refine cg_ct rfl ?_
      refine cg_seq ?_
      refine cg_region ?_
      refine zM rfl rfl rfl rfl rfl ?_
      refine zA rfl rfl rfl rfl rfl ?_
      refine lg_nil ?_
      refine nx (zk5 0 1 5 7 6 rfl rfl rfl rfl rfl fn) ?_
      refine cg_ret ?_
      refine eg_seq_ret ?_
      have u := u.trans (hw2.mono u.size)
      have u := u.trans (hw4.mono u.size)
      exact eg_ret_tmp rfl rfl ⟨_, rfl, rfl, u⟩
    · refine zt 18 rfl (by kernel_rfl) rfl (yb (decide_eq_false c5) (yi_gtr rfl rfl rfl)) rfl rfl ?_
      refine za rfl (y_pick false rfl rfl rfl) rfl rfl ?_
      refine zM rfl rfl rfl rfl rfl ?_
      refine zt 23 rfl (by kernel_rfl) rfl (y_move rfl rfl) rfl rfl ?_
      by_cases c6 : trIs Ls
      · have htr := c6
        have htl := trIs_le htr
        have hta := trAs_ok htr
        refine lg_callw (want_t (dj := 23) (by rfl) (by kernel_rfl) rfl) (sane_any (h.more (B' := w4.heap.size) (by omega)) (Nat.le_refl _)) (by kernel_rfl) rfl rfl rfl (by decide) ?_
        rintro u7 w7 ⟨e7, hw7⟩
        have zw7 := hw7.size
        obtain rfl : u7 = .bool true := e7.trans (congrArg Value.bool (decide_eq_true c6))
        refine zt 23 rfl (by kernel_rfl) rfl (y_bnot rfl rfl) rfl rfl ?_
        refine za rfl (y_pick false rfl rfl rfl) rfl rfl ?_
        refine lg_nil ?_
        refine nx (zk5 0 1 5 6 7 rfl rfl rfl rfl rfl (zk1 27 rfl fn)) ?_
        refine cg_cf rfl ?_
        refine cg_skip ?_
        refine nx (zk5 0 1 5 6 7 rfl rfl rfl rfl rfl fn) ?_
        refine cg_seq ?_
        refine cg_region ?_
        refine zM rfl rfl rfl rfl rfl ?_
        refine zM rfl rfl rfl rfl rfl ?_
        have r1 := RowAt.below hw2 r1.lt r1
        have r1 := RowAt.below hw4 r1.lt r1
        have r1 := RowAt.below hw7 r1.lt r1
        refine za rfl (y_loadA r1 (by kernel_rfl) (by kernel_rfl) rfl rfl) rfl rfl ?_
        have h := h.below (hw7.mono (by omega))
        have hl := hl.below (n1.below.mono (by omega))
        have hl := hl.below (hw2.mono (by omega))
        have hl := hl.below (hw4.mono (by omega))
        have hl := hl.below (hw7.mono (by omega))
        refine lg_callw (want_none (by rfl)) (set_any (h.more (B' := w7.heap.size) (by omega)) x (hl.more (B' := w7.heap.size) (by omega)) (Nat.le_refl _)) (by kernel_rfl) rfl rfl rfl (by decide) ?_
        rintro _ w8 ⟨s8, rfl, m8, hw8⟩
        have zw8 := hw8.size
        refine zM rfl rfl rfl rfl rfl ?_
        refine za rfl (y_extract rfl rfl rfl) rfl rfl ?_
        refine za rfl (y_extract rfl rfl rfl) rfl rfl ?_
        refine zA rfl rfl rfl rfl rfl ?_
        refine zA rfl rfl rfl rfl rfl ?_
        refine lg_nil ?_
        refine nx (zk5 0 1 5 6 7 rfl rfl rfl rfl rfl (zk2 8 9 rfl rfl fn)) ?_
        refine cg_seq ?_
        refine cg_seq ?_
        refine cg_region ?_
        refine zM rfl rfl rfl rfl rfl ?_
        by_cases c9 : (setE Ls x L) = 0
        · obtain ⟨hx, hok, hse⟩ := set_ok htr c9
          have lex := hx.le
          have hsl : (setL Ls x L).length = Ls.length := by rw [hse, List.length_set]
          have hsa : trAs (setL Ls x L) = (setL Ls x L) := by rw [hse]; exact trAs_ok (trIs_set htr hok)
          refine za rfl (yb (nd_f c9) (yi_neq rfl rfl rfl)) rfl rfl ?_
          refine lg_nil ?_
          refine nx (zk5 0 1 5 6 7 rfl rfl rfl rfl rfl (zk2 8 37 rfl rfl fn)) ?_
          refine cg_cf rfl ?_
          refine cg_skip ?_
          refine nx (zk5 0 1 5 6 7 rfl rfl rfl rfl rfl (zk1 8 rfl fn)) ?_
          refine cg_seq ?_
          refine cg_region ?_
          refine zM rfl rfl rfl rfl rfl ?_
          have h := h.below (hw8.mono (by omega))
          have u := u.trans (hw2.mono u.size)
          have u := u.trans (hw4.mono u.size)
          have u := u.trans (hw7.mono u.size)
          have u := u.trans (hw8.mono u.size)
          refine lg_callw (want_none (by rfl)) (all_any (h.more (B' := w8.heap.size) (by omega)) (Nat.le_refl _) (Tt.up u rg)) (by kernel_rfl) rfl rfl rfl (by decide) ?_
          rintro _ w10 ⟨r10, rfl, m10, hw10⟩
          have zw10 := hw10.size
          refine zA rfl rfl rfl rfl rfl ?_
          refine lg_nil ?_
          refine nx (zk5 0 1 5 6 7 rfl rfl rfl rfl rfl (zk2 8 10 rfl rfl fn)) ?_
          refine cg_seq ?_
          refine cg_region ?_
          refine zM rfl rfl rfl rfl rfl ?_
          have m8 := m8.below (hw10.mono (by omega))
          have u := u.trans (hw10.mono u.size)
          refine lg_callw (want_none (by rfl)) (all_any (m8.more (B' := w10.heap.size) (by omega)) (Nat.le_refl _) (Tt.up u rg)) (by kernel_rfl) rfl rfl rfl (by decide) ?_
          rintro _ w11 ⟨r11, rfl, m11, hw11⟩
          have zw11 := hw11.size
          refine zA rfl rfl rfl rfl rfl ?_
          refine lg_nil ?_
          refine nx (zk5 0 1 5 6 7 rfl rfl rfl rfl rfl (zk2 10 11 rfl rfl fn)) ?_
          refine cg_seq ?_
          refine cg_seq ?_
          refine cg_region ?_
          refine zM rfl rfl rfl rfl rfl ?_
          have m10 := m10.below (hw11.mono (by omega))
          refine za rfl (yv (congrArg nv (show (((allH (trAs Ls)).length : Nat) : Int) = (Ls.length : Int) by rw [hta, allH_len])) (y_lenM (el := 26) m10.len (by kernel_rfl) rfl rfl)) rfl rfl ?_
          refine zM rfl rfl rfl rfl rfl ?_
          have h := h.below (hw10.mono (by omega))
          have h := h.below (hw11.mono (by omega))
          refine za rfl (y_lenM (el := 40) h.len (by kernel_rfl) rfl rfl) rfl rfl ?_
          refine za rfl (yb (nd_f rfl) (yi_neq rfl rfl rfl)) rfl rfl ?_
          refine zM rfl rfl rfl rfl rfl ?_
          refine zt 48 rfl (by kernel_rfl) rfl (y_move rfl rfl) rfl rfl ?_
          refine zt 48 rfl (by kernel_rfl) rfl (yv (congrArg nv (show (((allH (trAs (setL Ls x L))).length : Nat) : Int) = (Ls.length : Int) by rw [hsa, allH_len, hsl])) (y_lenM (el := 26) m11.len (by kernel_rfl) rfl rfl)) rfl rfl ?_
          refine zt 48 rfl (by kernel_rfl) rfl (y_move rfl rfl) rfl rfl ?_
          refine zt 48 rfl (by kernel_rfl) rfl (y_lenM (el := 40) h.len (by kernel_rfl) rfl rfl) rfl rfl ?_
          refine zt 48 rfl (by kernel_rfl) rfl (yb (nd_f rfl) (yi_neq rfl rfl rfl)) rfl rfl ?_
          refine za rfl (y_pick false rfl rfl rfl) rfl rfl ?_
          refine lg_nil ?_
          refine nx (zk5 0 1 5 6 7 rfl rfl rfl rfl rfl (zk3 10 11 54 rfl rfl rfl fn)) ?_
          refine cg_cf rfl ?_
          refine cg_skip ?_
          refine nx (zk5 0 1 5 6 7 rfl rfl rfl rfl rfl (zk2 10 11 rfl rfl fn)) ?_
          refine cg_seq ?_
          refine cg_held (by kernel_rfl) fun W12 eW12 => ?_
          have dW12 := below_drew _ _ eW12
          have zW12 := size_drew _ _ eW12
          clear eW12
          have r1 := RowAt.below hw8 r1.lt r1
          have r1 := RowAt.below hw10 r1.lt r1
          have r1 := RowAt.below hw11 r1.lt r1
          have r1 := RowAt.below dW12 r1.lt r1
          refine zh 0 rfl rfl rfl rfl rfl (by kernel_rfl) (fun _ _ _ h => h) (fun q hq => y_loadA (RowAt.below hq r1.lt r1) (by kernel_rfl) (by kernel_rfl) rfl rfl) ?_
          refine zh 1 rfl rfl rfl rfl rfl (by kernel_rfl) (fun _ _ _ h => h) (fun q hq => y_move rfl rfl) ?_
          refine zh 2 rfl rfl rfl rfl rfl (by kernel_rfl) (fun _ _ _ h => h) (fun q hq => y_move rfl rfl) ?_
          have h := h.below (dW12.mono (by omega))
          obtain ⟨eb13, eo13, el13, eL13, eA13, eB13, eg13, eh13, ec13⟩ := h.at (x.toNat) (by have := h.len; omega)
          refine zh 3 rfl rfl rfl rfl rfl (by kernel_rfl) (fun _ _ _ h => h) (fun q hq => y_ixR (s := s) (el := 40) (k := 8) (i := x.toNat) (iI := x) eA13 (by kernel_rfl) (by kernel_rfl) (by omega) (by have := h.len; omega) rfl rfl rfl) ?_
          refine zh 4 rfl rfl rfl rfl rfl (by kernel_rfl) (fun _ _ _ h => h) (fun q hq => y_loadC (cs := el13.cs eL13) (fun k u e => (hq.cell (p := ⟨eb13, _, none⟩) (show eb13 < _ by omega)).trans (ec13 k u e)) (by kernel_rfl) (by kernel_rfl) rfl rfl) ?_
          have hl := hl.below (hw8.mono (by omega))
          have hl := hl.below (hw10.mono (by omega))
          have hl := hl.below (hw11.mono (by omega))
          have hl := hl.below (dW12.mono (by omega))
          by_cases c14 : NdSame L eL13
          · have hsame : (setL Ls x L) = Ls := by rw [hse]; exact set_same eg13 c14
            refine hg_one 5 (by rfl) (by kernel_rfl) (want_none (by rfl)) ?_
            refine lg_callw (want_none (by rfl)) (sameN_any (hl.more (B' := W12.heap.size) (by omega)) (eh13.more (B' := W12.heap.size) (by omega)) (Nat.le_refl _)) (by kernel_rfl) rfl rfl rfl (by decide) ?_
            rintro u15 w15 ⟨e15, hw15⟩
            have zw15 := hw15.size
            obtain rfl : u15 = .bool true := e15.trans (congrArg Value.bool (decide_eq_true c14))
            refine hg_next hw15 ?_
            refine hg_up hw15 ?_
            refine zh 6 rfl rfl rfl rfl rfl (by kernel_rfl) (fun _ _ _ h => h) (fun q hq => y_assign rfl rfl) ?_
            refine hg_done (by kernel_rfl) ?_
            refine nx (zk5 0 1 6 7 10 rfl rfl rfl rfl rfl (zk2 11 12 rfl rfl fn)) ?_
            refine cg_seq ?_
            refine cg_seq ?_
            refine cg_region ?_
            refine zA rfl rfl rfl rfl rfl ?_
            refine lg_nil ?_
            refine nx (zk5 0 1 6 7 10 rfl rfl rfl rfl rfl (zk3 11 12 13 rfl rfl rfl fn)) ?_
            refine cg_block ?_
            obtain ⟨C, hC⟩ : ∃ q, q = w15.heap.size := ⟨_, rfl⟩
            have m10 := m10.below (dW12.mono (by omega))
            have m10 := m10.below (hw15.mono (by omega))
            have m11 := m11.below (dW12.mono (by omega))
            have m11 := m11.below (hw15.mono (by omega))
            have h := h.below (hw15.mono (by omega))
            have u := u.trans (hw11.mono u.size)
            have u := u.trans (dW12.mono u.size)
            have u := u.trans (hw15.mono u.size)
            refine cg_loopE (fun t a v => Holds 90 [(0, s.v), (1, nv x), (7, .bool true), (10, r10.v), (11, r11.v), (12, .bool true), (13, nv ((t : Nat) : Int))] a ∧ RwNd v W.heap.size s Ls ∧ Below W.heap.size W v ∧ C ≤ v.heap.size ∧ W.heap.size ≤ C ∧ RwOc v C r10 (allH (trAs Ls)) ∧ RwOc v C r11 (allH (trAs (setL Ls x L))) ∧ t ≤ Ls.length) (Ls.length + 1) (fun a ha => ⟨ha.keep (fk rfl (fk rfl (fk rfl (fk rfl (fk rfl (fk rfl (fk rfl fn))))))), h, u, (Nat.le_of_eq hC), (by omega), (m10.more (by omega)), (m11.more (by omega)), (Nat.zero_le _)⟩) ?_
            rintro t a v ht ⟨ha, h, u, cC, cW, ho, hp, tle⟩
            refine cg_at ha ?_
            clear ha a
            have zv := u.size
            have q1 := h.len
            have q2 := h.cap
            have q7 := ho.len
            have q8 := ho.cap
            have q9 := hp.len
            have qa := hp.cap
            refine cg_seq ?_
            refine cg_seq ?_
            refine cg_region ?_
            refine zM rfl rfl rfl rfl rfl ?_
            refine zM rfl rfl rfl rfl rfl ?_
            refine za rfl (y_lenM (el := 40) h.len (by kernel_rfl) rfl rfl) rfl rfl ?_
            by_cases c16 : ((t : Nat) : Int) < (Ls.length : Int)
            · have htn : t < Ls.length := by omega
              have hy := isN_of htr (x := (t : Int)) (by omega) (by omega)
              have al1 : (allH (trAs Ls)).length = Ls.length := by rw [hta, allH_len]
              have al2 : (allH (trAs (setL Ls x L))).length = Ls.length := by rw [hsa, allH_len, hsl]
              have e1 : (allH (trAs Ls)).getD t [] = hsL Ls t := by rw [hta]; exact allH_getD htn
              have e2 : (allH (trAs (setL Ls x L))).getD t [] = hsL (setL Ls x L) t := by rw [hsa]; exact allH_getD (by omega)
              refine za rfl (yb (decide_eq_true c16) (yi_lss rfl rfl rfl)) rfl rfl ?_
              refine lg_nil ?_
              refine nx (zk5 0 1 7 10 11 rfl rfl rfl rfl rfl (zk3 12 13 64 rfl rfl rfl fn)) ?_
              refine cg_ct rfl ?_
              refine cg_skip ?_
              refine nx (zk5 0 1 7 10 11 rfl rfl rfl rfl rfl (zk2 12 13 rfl rfl fn)) ?_
              refine cg_seq ?_
              refine cg_block ?_
              refine cg_seq ?_
              refine cg_held (by kernel_rfl) fun W17 eW17 => ?_
              have dW17 := below_drew _ _ eW17
              have zW17 := size_drew _ _ eW17
              clear eW17
              refine zh 0 rfl rfl rfl rfl rfl (by kernel_rfl) (fun _ _ _ h => h) (fun q hq => y_move rfl rfl) ?_
              refine zh 1 rfl rfl rfl rfl rfl (by kernel_rfl) (fun _ _ _ h => h) (fun q hq => y_move rfl rfl) ?_
              refine hg_skip 2 (by rfl) (want_f (dj := 68) (by rfl) (by kernel_rfl) rfl) rfl (by decide) (by kernel_rfl) (by kernel_rfl) (by kernel_rfl) (fun _ _ _ h => h) (Below.refl _ _) ?_
              refine hg_skip 3 (by rfl) (want_f (dj := 68) (by rfl) (by kernel_rfl) rfl) rfl (by decide) (by kernel_rfl) (by kernel_rfl) (by kernel_rfl) (fun _ _ _ h => h) (Below.refl _ _) ?_
              refine hg_skip 4 (by rfl) (want_f (dj := 68) (by rfl) (by kernel_rfl) rfl) rfl (by decide) (by kernel_rfl) (by kernel_rfl) (by kernel_rfl) (fun _ _ _ h => h) (Below.refl _ _) ?_
              refine hg_skip 5 (by rfl) (want_f (dj := 68) (by rfl) (by kernel_rfl) rfl) rfl (by decide) (by kernel_rfl) (by kernel_rfl) (by kernel_rfl) (fun _ _ _ h => h) (Below.refl _ _) ?_
              refine hg_skip1 6 (Below.refl _ _) (by rfl) (want_f (dj := 68) (by rfl) (by kernel_rfl) rfl) rfl (by decide) (by kernel_rfl) ?_
              refine hg_skip 7 (by rfl) (want_f (dj := 68) (by rfl) (by kernel_rfl) rfl) rfl (by decide) (by kernel_rfl) (by kernel_rfl) (by kernel_rfl) (fun _ _ _ h => h) (Below.refl _ _) ?_
              refine zh 8 rfl rfl rfl rfl rfl (by kernel_rfl) (fun _ _ _ h => h) (fun q hq => y_pick true rfl rfl rfl) ?_
              refine zh 9 rfl rfl rfl rfl rfl (by kernel_rfl) (fun _ _ _ h => h) (fun q hq => y_move rfl rfl) ?_
              refine hg_take 10 (by rfl) (want_t (dj := 76) (by rfl) (by kernel_rfl) rfl) (by rfl) rfl (by decide) (by kernel_rfl) (by kernel_rfl) (by kernel_rfl) (fun _ _ _ h => h) (Below.refl _ _) (fun q hq => y_move rfl rfl) ?_
              refine hg_take 11 (by rfl) (want_t (dj := 76) (by rfl) (by kernel_rfl) rfl) (by rfl) rfl (by decide) (by kernel_rfl) (by kernel_rfl) (by kernel_rfl) (fun _ _ _ h => h) (Below.refl _ _) (fun q hq => y_move rfl rfl) ?_
              have ho := ho.below (dW17.mono (by omega))
              obtain ⟨eb18, eo18, er18, eA18, eB18, eh18, ec18⟩ := ho.at (t) (by have := ho.len; first | omega | (simp only [allH_len, allN_len, List.length_append, List.length_cons, List.length_nil] at this; omega))
              refine hg_take 12 (by rfl) (want_t (dj := 76) (by rfl) (by kernel_rfl) rfl) (by rfl) rfl (by decide) (by kernel_rfl) (by kernel_rfl) (by kernel_rfl) (fun _ _ _ h => h) (Below.refl _ _) (fun q hq => y_ixR (s := r10) (el := 26) (k := 1) (i := t) (iI := ((t : Nat) : Int)) eA18 (by kernel_rfl) (by kernel_rfl) (by omega) (by have := ho.len; first | omega | (simp only [allH_len, allN_len, List.length_append, List.length_cons, List.length_nil] at this; omega)) rfl rfl rfl) ?_
              refine hg_take 13 (by rfl) (want_t (dj := 76) (by rfl) (by kernel_rfl) rfl) (by rfl) rfl (by decide) (by kernel_rfl) (by kernel_rfl) (by kernel_rfl) (fun _ _ _ h => h) (Below.refl _ _) (fun q hq => y_celld ((hq.cell (p := ⟨eb18, _, none⟩) (show eb18 < _ by omega)).trans (ec18)) (by kernel_rfl) rfl rfl) ?_
              have by19 : Bytes ((allH (trAs Ls)).getD t []) := eh18.bytes
              refine hg_take 14 (by rfl) (want_t (dj := 76) (by rfl) (by kernel_rfl) rfl) (by rfl) rfl (by decide) (by kernel_rfl) (by kernel_rfl) (by kernel_rfl) (fun _ _ _ h => h) (Below.refl _ _) (fun q hq => y_strS (eh18.below (hq.mono (by omega))) rfl rfl) ?_
              refine hg_take 15 (by rfl) (want_t (dj := 76) (by rfl) (by kernel_rfl) rfl) (by rfl) rfl (by decide) (by kernel_rfl) (by kernel_rfl) (by kernel_rfl) (fun _ _ _ h => h) (Below.refl _ _) (fun q hq => y_move rfl rfl) ?_
              refine hg_take 16 (by rfl) (want_t (dj := 76) (by rfl) (by kernel_rfl) rfl) (by rfl) rfl (by decide) (by kernel_rfl) (by kernel_rfl) (by kernel_rfl) (fun _ _ _ h => h) (Below.refl _ _) (fun q hq => y_move rfl rfl) ?_
              have hp := hp.below (dW17.mono (by omega))
              obtain ⟨eb20, eo20, er20, eA20, eB20, eh20, ec20⟩ := hp.at (t) (by have := hp.len; first | omega | (simp only [allH_len, allN_len, List.length_append, List.length_cons, List.length_nil] at this; omega))
              refine hg_take 17 (by rfl) (want_t (dj := 76) (by rfl) (by kernel_rfl) rfl) (by rfl) rfl (by decide) (by kernel_rfl) (by kernel_rfl) (by kernel_rfl) (fun _ _ _ h => h) (Below.refl _ _) (fun q hq => y_ixR (s := r11) (el := 26) (k := 1) (i := t) (iI := ((t : Nat) : Int)) eA20 (by kernel_rfl) (by kernel_rfl) (by omega) (by have := hp.len; first | omega | (simp only [allH_len, allN_len, List.length_append, List.length_cons, List.length_nil] at this; omega)) rfl rfl rfl) ?_
              refine hg_take 18 (by rfl) (want_t (dj := 76) (by rfl) (by kernel_rfl) rfl) (by rfl) rfl (by decide) (by kernel_rfl) (by kernel_rfl) (by kernel_rfl) (fun _ _ _ h => h) (Below.refl _ _) (fun q hq => y_celld ((hq.cell (p := ⟨eb20, _, none⟩) (show eb20 < _ by omega)).trans (ec20)) (by kernel_rfl) rfl rfl) ?_
              have by21 : Bytes ((allH (trAs (setL Ls x L))).getD t []) := eh20.bytes
              refine hg_take 19 (by rfl) (want_t (dj := 76) (by rfl) (by kernel_rfl) rfl) (by rfl) rfl (by decide) (by kernel_rfl) (by kernel_rfl) (by kernel_rfl) (fun _ _ _ h => h) (Below.refl _ _) (fun q hq => y_strS (eh20.below (hq.mono (by omega))) rfl rfl) ?_
              refine hg_take 20 (by rfl) (want_t (dj := 76) (by rfl) (by kernel_rfl) rfl) (by rfl) rfl (by decide) (by kernel_rfl) (by kernel_rfl) (by kernel_rfl) (fun _ _ _ h => h) (Below.refl _ _) (fun q hq => yb (nd_f (show ((allH (trAs Ls)).getD t []) = ((allH (trAs (setL Ls x L))).getD t []) from (by rw [e1, e2, hsame]))) (y_sneS (xs := ((allH (trAs Ls)).getD t [])) (ys := ((allH (trAs (setL Ls x L))).getD t [])) by19 by21 rfl rfl rfl)) ?_
              refine zh 21 rfl rfl rfl rfl rfl (by kernel_rfl) (fun _ _ _ h => h) (fun q hq => y_pick true rfl rfl rfl) ?_
              refine hg_done (by kernel_rfl) ?_
              refine nx (zk5 0 1 7 10 11 rfl rfl rfl rfl rfl (zk3 12 13 88 rfl rfl rfl fn)) ?_
              refine cg_cf rfl ?_
              refine cg_skip ?_
              refine eg_block_norm ?_
              refine nx (zk5 0 1 7 10 11 rfl rfl rfl rfl rfl (zk2 12 13 rfl rfl fn)) ?_
              refine cg_region ?_
              refine zM rfl rfl rfl rfl rfl ?_
              refine za rfl (yv (congrArg nv (show ((t : Nat) : Int) + 1 = ((t + 1 : Nat) : Int) by omega)) (yi_add rfl rfl rfl (by omega) (by omega))) rfl rfl ?_
              refine zA rfl rfl rfl rfl rfl ?_
              refine lg_nil ?_
              have h := h.below (dW17.mono (by omega))
              have u := u.trans (dW17.mono u.size)
              have cC := (show C ≤ W17.heap.size by omega)
              have cW := cW
              exact fun a ha => (show t < (Ls.length + 1) ∧ _ from ⟨(by omega), ha.keep (fk rfl (fk rfl (fk rfl (fk rfl (fk rfl (fk rfl (fk rfl fn))))))), h, u, cC, cW, ho, hp, (by omega)⟩)
            · refine za rfl (yb (decide_eq_false c16) (yi_lss rfl rfl rfl)) rfl rfl ?_
              refine lg_nil ?_
              refine nx (zk5 0 1 7 10 11 rfl rfl rfl rfl rfl (zk3 12 13 64 rfl rfl rfl fn)) ?_
              refine cg_cf rfl ?_
              refine cg_exit ?_
              refine eg_seq_exit ?_
              refine eg_seq_exit ?_
              refine eg_block_exit ?_
              refine nx (zk1 7 rfl fn) ?_
              refine cg_seq ?_
              refine cg_region ?_
              refine zM rfl rfl rfl rfl rfl ?_
              refine zA rfl rfl rfl rfl rfl ?_
              refine lg_nil ?_
              refine nx (zk1 6 rfl fn) ?_
              refine cg_ret ?_
              exact eg_ret_tmp rfl rfl ⟨_, rfl, rfl, u⟩
          · refine hg_one 5 (by rfl) (by kernel_rfl) (want_none (by rfl)) ?_
            refine lg_callw (want_none (by rfl)) (sameN_any (hl.more (B' := W12.heap.size) (by omega)) (eh13.more (B' := W12.heap.size) (by omega)) (Nat.le_refl _)) (by kernel_rfl) rfl rfl rfl (by decide) ?_
            rintro u22 w22 ⟨e22, hw22⟩
            have zw22 := hw22.size
            obtain rfl : u22 = .bool false := e22.trans (congrArg Value.bool (decide_eq_false c14))
            refine hg_next hw22 ?_
            refine hg_up hw22 ?_
            refine zh 6 rfl rfl rfl rfl rfl (by kernel_rfl) (fun _ _ _ h => h) (fun q hq => y_assign rfl rfl) ?_
            refine hg_done (by kernel_rfl) ?_
            refine nx (zk5 0 1 6 7 10 rfl rfl rfl rfl rfl (zk2 11 12 rfl rfl fn)) ?_
            refine cg_seq ?_
            refine cg_seq ?_
            refine cg_region ?_
            refine zA rfl rfl rfl rfl rfl ?_
            refine lg_nil ?_
            refine nx (zk5 0 1 6 7 10 rfl rfl rfl rfl rfl (zk3 11 12 13 rfl rfl rfl fn)) ?_
            refine cg_block ?_
            obtain ⟨C, hC⟩ : ∃ q, q = w22.heap.size := ⟨_, rfl⟩
            have m10 := m10.below (dW12.mono (by omega))
            have m10 := m10.below (hw22.mono (by omega))
            have m11 := m11.below (dW12.mono (by omega))
            have m11 := m11.below (hw22.mono (by omega))
            have h := h.below (hw22.mono (by omega))
            have u := u.trans (hw11.mono u.size)
            have u := u.trans (dW12.mono u.size)
            have u := u.trans (hw22.mono u.size)
            refine cg_loopE (fun t a v => Holds 90 [(0, s.v), (1, nv x), (7, .bool true), (10, r10.v), (11, r11.v), (12, .bool false), (13, nv ((t : Nat) : Int))] a ∧ RwNd v W.heap.size s Ls ∧ Below W.heap.size W v ∧ C ≤ v.heap.size ∧ W.heap.size ≤ C ∧ RwOc v C r10 (allH (trAs Ls)) ∧ RwOc v C r11 (allH (trAs (setL Ls x L))) ∧ t ≤ Ls.length) (Ls.length + 1) (fun a ha => ⟨ha.keep (fk rfl (fk rfl (fk rfl (fk rfl (fk rfl (fk rfl (fk rfl fn))))))), h, u, (Nat.le_of_eq hC), (by omega), (m10.more (by omega)), (m11.more (by omega)), (Nat.zero_le _)⟩) ?_
            rintro t a v ht ⟨ha, h, u, cC, cW, ho, hp, tle⟩
            refine cg_at ha ?_
            clear ha a
            have zv := u.size
            have q1 := h.len
            have q2 := h.cap
            have q7 := ho.len
            have q8 := ho.cap
            have q9 := hp.len
            have qa := hp.cap
            refine cg_seq ?_
            refine cg_seq ?_
            refine cg_region ?_
            refine zM rfl rfl rfl rfl rfl ?_
            refine zM rfl rfl rfl rfl rfl ?_
            refine za rfl (y_lenM (el := 40) h.len (by kernel_rfl) rfl rfl) rfl rfl ?_
            by_cases c23 : ((t : Nat) : Int) < (Ls.length : Int)
            · have htn : t < Ls.length := by omega
              have hy := isN_of htr (x := (t : Int)) (by omega) (by omega)
              have al1 : (allH (trAs Ls)).length = Ls.length := by rw [hta, allH_len]
              have al2 : (allH (trAs (setL Ls x L))).length = Ls.length := by rw [hsa, allH_len, hsl]
              have e1 : (allH (trAs Ls)).getD t [] = hsL Ls t := by rw [hta]; exact allH_getD htn
              have e2 : (allH (trAs (setL Ls x L))).getD t [] = hsL (setL Ls x L) t := by rw [hsa]; exact allH_getD (by omega)
              refine za rfl (yb (decide_eq_true c23) (yi_lss rfl rfl rfl)) rfl rfl ?_
              refine lg_nil ?_
              refine nx (zk5 0 1 7 10 11 rfl rfl rfl rfl rfl (zk3 12 13 64 rfl rfl rfl fn)) ?_
              refine cg_ct rfl ?_
              refine cg_skip ?_
              refine nx (zk5 0 1 7 10 11 rfl rfl rfl rfl rfl (zk2 12 13 rfl rfl fn)) ?_
              refine cg_seq ?_
              refine cg_block ?_
              refine cg_seq ?_
              refine cg_held (by kernel_rfl) fun W24 eW24 => ?_
              have dW24 := below_drew _ _ eW24
              have zW24 := size_drew _ _ eW24
              clear eW24
              refine zh 0 rfl rfl rfl rfl rfl (by kernel_rfl) (fun _ _ _ h => h) (fun q hq => y_move rfl rfl) ?_
              refine zh 1 rfl rfl rfl rfl rfl (by kernel_rfl) (fun _ _ _ h => h) (fun q hq => y_move rfl rfl) ?_
              refine hg_take 2 (by rfl) (want_t (dj := 68) (by rfl) (by kernel_rfl) rfl) (by rfl) rfl (by decide) (by kernel_rfl) (by kernel_rfl) (by kernel_rfl) (fun _ _ _ h => h) (Below.refl _ _) (fun q hq => y_move rfl rfl) ?_
              refine hg_take 3 (by rfl) (want_t (dj := 68) (by rfl) (by kernel_rfl) rfl) (by rfl) rfl (by decide) (by kernel_rfl) (by kernel_rfl) (by kernel_rfl) (fun _ _ _ h => h) (Below.refl _ _) (fun q hq => y_move rfl rfl) ?_
              refine hg_take 4 (by rfl) (want_t (dj := 68) (by rfl) (by kernel_rfl) rfl) (by rfl) rfl (by decide) (by kernel_rfl) (by kernel_rfl) (by kernel_rfl) (fun _ _ _ h => h) (Below.refl _ _) (fun q hq => y_move rfl rfl) ?_
              have h := h.below (dW24.mono (by omega))
              refine hg_take 5 (by rfl) (want_t (dj := 68) (by rfl) (by kernel_rfl) rfl) (by rfl) rfl (by decide) (by kernel_rfl) (by kernel_rfl) (by kernel_rfl) (fun _ _ _ h => h) (Below.refl _ _) (fun q hq => y_lenM (el := 40) h.len (by kernel_rfl) rfl rfl) ?_
              have u := u.trans (dW24.mono u.size)
              by_cases c25 : undI x ((t : Nat) : Int) (Ls.length : Int)
              · refine hg_one 6 (by rfl) (by kernel_rfl) (want_t (dj := 68) (by rfl) (by kernel_rfl) rfl) ?_
                refine lg_callw (want_t (dj := 68) (by rfl) (by kernel_rfl) rfl) (under_any x ((t : Nat) : Int) (Ls.length : Int) _ (Tt.up u rg).b) (by kernel_rfl) rfl rfl rfl (by decide) ?_
                rintro u26 w26 ⟨e26, hw26⟩
                have zw26 := hw26.size
                obtain rfl : u26 = .bool true := e26.trans (congrArg Value.bool (decide_eq_true c25))
                refine hg_next hw26 ?_
                refine hg_up hw26 ?_
                refine hg_take 7 (by rfl) (want_t (dj := 68) (by rfl) (by kernel_rfl) rfl) (by rfl) rfl (by decide) (by kernel_rfl) (by kernel_rfl) (by kernel_rfl) (fun _ _ _ h => h) (Below.refl _ _) (fun q hq => y_bnot rfl rfl) ?_
                refine zh 8 rfl rfl rfl rfl rfl (by kernel_rfl) (fun _ _ _ h => h) (fun q hq => y_pick false rfl rfl rfl) ?_
                refine zh 9 rfl rfl rfl rfl rfl (by kernel_rfl) (fun _ _ _ h => h) (fun q hq => y_move rfl rfl) ?_
                refine hg_skip 10 (by rfl) (want_f (dj := 76) (by rfl) (by kernel_rfl) rfl) rfl (by decide) (by kernel_rfl) (by kernel_rfl) (by kernel_rfl) (fun _ _ _ h => h) (Below.refl _ _) ?_
                refine hg_skip 11 (by rfl) (want_f (dj := 76) (by rfl) (by kernel_rfl) rfl) rfl (by decide) (by kernel_rfl) (by kernel_rfl) (by kernel_rfl) (fun _ _ _ h => h) (Below.refl _ _) ?_
                refine hg_skip 12 (by rfl) (want_f (dj := 76) (by rfl) (by kernel_rfl) rfl) rfl (by decide) (by kernel_rfl) (by kernel_rfl) (by kernel_rfl) (fun _ _ _ h => h) (Below.refl _ _) ?_
                refine hg_skip 13 (by rfl) (want_f (dj := 76) (by rfl) (by kernel_rfl) rfl) rfl (by decide) (by kernel_rfl) (by kernel_rfl) (by kernel_rfl) (fun _ _ _ h => h) (Below.refl _ _) ?_
                refine hg_skip 14 (by rfl) (want_f (dj := 76) (by rfl) (by kernel_rfl) rfl) rfl (by decide) (by kernel_rfl) (by kernel_rfl) (by kernel_rfl) (fun _ _ _ h => h) (Below.refl _ _) ?_
                refine hg_skip 15 (by rfl) (want_f (dj := 76) (by rfl) (by kernel_rfl) rfl) rfl (by decide) (by kernel_rfl) (by kernel_rfl) (by kernel_rfl) (fun _ _ _ h => h) (Below.refl _ _) ?_
                refine hg_skip 16 (by rfl) (want_f (dj := 76) (by rfl) (by kernel_rfl) rfl) rfl (by decide) (by kernel_rfl) (by kernel_rfl) (by kernel_rfl) (fun _ _ _ h => h) (Below.refl _ _) ?_
                refine hg_skip 17 (by rfl) (want_f (dj := 76) (by rfl) (by kernel_rfl) rfl) rfl (by decide) (by kernel_rfl) (by kernel_rfl) (by kernel_rfl) (fun _ _ _ h => h) (Below.refl _ _) ?_
                refine hg_skip 18 (by rfl) (want_f (dj := 76) (by rfl) (by kernel_rfl) rfl) rfl (by decide) (by kernel_rfl) (by kernel_rfl) (by kernel_rfl) (fun _ _ _ h => h) (Below.refl _ _) ?_
                refine hg_skip 19 (by rfl) (want_f (dj := 76) (by rfl) (by kernel_rfl) rfl) rfl (by decide) (by kernel_rfl) (by kernel_rfl) (by kernel_rfl) (fun _ _ _ h => h) (Below.refl _ _) ?_
                refine hg_skip 20 (by rfl) (want_f (dj := 76) (by rfl) (by kernel_rfl) rfl) rfl (by decide) (by kernel_rfl) (by kernel_rfl) (by kernel_rfl) (fun _ _ _ h => h) (Below.refl _ _) ?_
                refine zh 21 rfl rfl rfl rfl rfl (by kernel_rfl) (fun _ _ _ h => h) (fun q hq => y_pick false rfl rfl rfl) ?_
                refine hg_done (by kernel_rfl) ?_
                refine nx (zk5 0 1 7 10 11 rfl rfl rfl rfl rfl (zk3 12 13 88 rfl rfl rfl fn)) ?_
                refine cg_cf rfl ?_
                refine cg_skip ?_
                refine eg_block_norm ?_
                refine nx (zk5 0 1 7 10 11 rfl rfl rfl rfl rfl (zk2 12 13 rfl rfl fn)) ?_
                refine cg_region ?_
                refine zM rfl rfl rfl rfl rfl ?_
                refine za rfl (yv (congrArg nv (show ((t : Nat) : Int) + 1 = ((t + 1 : Nat) : Int) by omega)) (yi_add rfl rfl rfl (by omega) (by omega))) rfl rfl ?_
                refine zA rfl rfl rfl rfl rfl ?_
                refine lg_nil ?_
                have h := h.below (hw26.mono (by omega))
                have u := u.trans (hw26.mono u.size)
                have cC := (show C ≤ W24.heap.size by omega)
                have cC := (show C ≤ w26.heap.size by omega)
                have cW := cW
                have cW := cW
                have ho := ho.below (dW24.mono (by omega))
                have ho := ho.below (hw26.mono (by omega))
                have hp := hp.below (dW24.mono (by omega))
                have hp := hp.below (hw26.mono (by omega))
                exact fun a ha => (show t < (Ls.length + 1) ∧ _ from ⟨(by omega), ha.keep (fk rfl (fk rfl (fk rfl (fk rfl (fk rfl (fk rfl (fk rfl fn))))))), h, u, cC, cW, ho, hp, (by omega)⟩)
              · refine hg_one 6 (by rfl) (by kernel_rfl) (want_t (dj := 68) (by rfl) (by kernel_rfl) rfl) ?_
                refine lg_callw (want_t (dj := 68) (by rfl) (by kernel_rfl) rfl) (under_any x ((t : Nat) : Int) (Ls.length : Int) _ (Tt.up u rg).b) (by kernel_rfl) rfl rfl rfl (by decide) ?_
                rintro u27 w27 ⟨e27, hw27⟩
                have zw27 := hw27.size
                obtain rfl : u27 = .bool false := e27.trans (congrArg Value.bool (decide_eq_false c25))
                refine hg_next hw27 ?_
                refine hg_up hw27 ?_
                refine hg_take 7 (by rfl) (want_t (dj := 68) (by rfl) (by kernel_rfl) rfl) (by rfl) rfl (by decide) (by kernel_rfl) (by kernel_rfl) (by kernel_rfl) (fun _ _ _ h => h) (Below.refl _ _) (fun q hq => y_bnot rfl rfl) ?_
                refine zh 8 rfl rfl rfl rfl rfl (by kernel_rfl) (fun _ _ _ h => h) (fun q hq => y_pick false rfl rfl rfl) ?_
                refine zh 9 rfl rfl rfl rfl rfl (by kernel_rfl) (fun _ _ _ h => h) (fun q hq => y_move rfl rfl) ?_
                refine hg_take 10 (by rfl) (want_t (dj := 76) (by rfl) (by kernel_rfl) rfl) (by rfl) rfl (by decide) (by kernel_rfl) (by kernel_rfl) (by kernel_rfl) (fun _ _ _ h => h) (Below.refl _ _) (fun q hq => y_move rfl rfl) ?_
                refine hg_take 11 (by rfl) (want_t (dj := 76) (by rfl) (by kernel_rfl) rfl) (by rfl) rfl (by decide) (by kernel_rfl) (by kernel_rfl) (by kernel_rfl) (fun _ _ _ h => h) (Below.refl _ _) (fun q hq => y_move rfl rfl) ?_
                have ho := ho.below (dW24.mono (by omega))
                have ho := ho.below (hw27.mono (by omega))
                obtain ⟨eb28, eo28, er28, eA28, eB28, eh28, ec28⟩ := ho.at (t) (by have := ho.len; first | omega | (simp only [allH_len, allN_len, List.length_append, List.length_cons, List.length_nil] at this; omega))
                refine hg_take 12 (by rfl) (want_t (dj := 76) (by rfl) (by kernel_rfl) rfl) (by rfl) rfl (by decide) (by kernel_rfl) (by kernel_rfl) (by kernel_rfl) (fun _ _ _ h => h) (Below.refl _ _) (fun q hq => y_ixR (s := r10) (el := 26) (k := 1) (i := t) (iI := ((t : Nat) : Int)) eA28 (by kernel_rfl) (by kernel_rfl) (by omega) (by have := ho.len; first | omega | (simp only [allH_len, allN_len, List.length_append, List.length_cons, List.length_nil] at this; omega)) rfl rfl rfl) ?_
                refine hg_take 13 (by rfl) (want_t (dj := 76) (by rfl) (by kernel_rfl) rfl) (by rfl) rfl (by decide) (by kernel_rfl) (by kernel_rfl) (by kernel_rfl) (fun _ _ _ h => h) (Below.refl _ _) (fun q hq => y_celld ((hq.cell (p := ⟨eb28, _, none⟩) (show eb28 < _ by omega)).trans (ec28)) (by kernel_rfl) rfl rfl) ?_
                have by29 : Bytes ((allH (trAs Ls)).getD t []) := eh28.bytes
                refine hg_take 14 (by rfl) (want_t (dj := 76) (by rfl) (by kernel_rfl) rfl) (by rfl) rfl (by decide) (by kernel_rfl) (by kernel_rfl) (by kernel_rfl) (fun _ _ _ h => h) (Below.refl _ _) (fun q hq => y_strS (eh28.below (hq.mono (by omega))) rfl rfl) ?_
                refine hg_take 15 (by rfl) (want_t (dj := 76) (by rfl) (by kernel_rfl) rfl) (by rfl) rfl (by decide) (by kernel_rfl) (by kernel_rfl) (by kernel_rfl) (fun _ _ _ h => h) (Below.refl _ _) (fun q hq => y_move rfl rfl) ?_
                refine hg_take 16 (by rfl) (want_t (dj := 76) (by rfl) (by kernel_rfl) rfl) (by rfl) rfl (by decide) (by kernel_rfl) (by kernel_rfl) (by kernel_rfl) (fun _ _ _ h => h) (Below.refl _ _) (fun q hq => y_move rfl rfl) ?_
                have hp := hp.below (dW24.mono (by omega))
                have hp := hp.below (hw27.mono (by omega))
                obtain ⟨eb30, eo30, er30, eA30, eB30, eh30, ec30⟩ := hp.at (t) (by have := hp.len; first | omega | (simp only [allH_len, allN_len, List.length_append, List.length_cons, List.length_nil] at this; omega))
                refine hg_take 17 (by rfl) (want_t (dj := 76) (by rfl) (by kernel_rfl) rfl) (by rfl) rfl (by decide) (by kernel_rfl) (by kernel_rfl) (by kernel_rfl) (fun _ _ _ h => h) (Below.refl _ _) (fun q hq => y_ixR (s := r11) (el := 26) (k := 1) (i := t) (iI := ((t : Nat) : Int)) eA30 (by kernel_rfl) (by kernel_rfl) (by omega) (by have := hp.len; first | omega | (simp only [allH_len, allN_len, List.length_append, List.length_cons, List.length_nil] at this; omega)) rfl rfl rfl) ?_
                refine hg_take 18 (by rfl) (want_t (dj := 76) (by rfl) (by kernel_rfl) rfl) (by rfl) rfl (by decide) (by kernel_rfl) (by kernel_rfl) (by kernel_rfl) (fun _ _ _ h => h) (Below.refl _ _) (fun q hq => y_celld ((hq.cell (p := ⟨eb30, _, none⟩) (show eb30 < _ by omega)).trans (ec30)) (by kernel_rfl) rfl rfl) ?_
                have by31 : Bytes ((allH (trAs (setL Ls x L))).getD t []) := eh30.bytes
                refine hg_take 19 (by rfl) (want_t (dj := 76) (by rfl) (by kernel_rfl) rfl) (by rfl) rfl (by decide) (by kernel_rfl) (by kernel_rfl) (by kernel_rfl) (fun _ _ _ h => h) (Below.refl _ _) (fun q hq => y_strS (eh30.below (hq.mono (by omega))) rfl rfl) ?_
                refine hg_take 20 (by rfl) (want_t (dj := 76) (by rfl) (by kernel_rfl) rfl) (by rfl) rfl (by decide) (by kernel_rfl) (by kernel_rfl) (by kernel_rfl) (fun _ _ _ h => h) (Below.refl _ _) (fun q hq => yb (nd_f (show ((allH (trAs Ls)).getD t []) = ((allH (trAs (setL Ls x L))).getD t []) from (by rw [e1, e2, hse]; exact (hs_set hx hy c25).symm))) (y_sneS (xs := ((allH (trAs Ls)).getD t [])) (ys := ((allH (trAs (setL Ls x L))).getD t [])) by29 by31 rfl rfl rfl)) ?_
                refine zh 21 rfl rfl rfl rfl rfl (by kernel_rfl) (fun _ _ _ h => h) (fun q hq => y_pick true rfl rfl rfl) ?_
                refine hg_done (by kernel_rfl) ?_
                refine nx (zk5 0 1 7 10 11 rfl rfl rfl rfl rfl (zk3 12 13 88 rfl rfl rfl fn)) ?_
                refine cg_cf rfl ?_
                refine cg_skip ?_
                refine eg_block_norm ?_
                refine nx (zk5 0 1 7 10 11 rfl rfl rfl rfl rfl (zk2 12 13 rfl rfl fn)) ?_
                refine cg_region ?_
                refine zM rfl rfl rfl rfl rfl ?_
                refine za rfl (yv (congrArg nv (show ((t : Nat) : Int) + 1 = ((t + 1 : Nat) : Int) by omega)) (yi_add rfl rfl rfl (by omega) (by omega))) rfl rfl ?_
                refine zA rfl rfl rfl rfl rfl ?_
                refine lg_nil ?_
                have h := h.below (hw27.mono (by omega))
                have u := u.trans (hw27.mono u.size)
                have cC := (show C ≤ W24.heap.size by omega)
                have cC := (show C ≤ w27.heap.size by omega)
                have cW := cW
                have cW := cW
                exact fun a ha => (show t < (Ls.length + 1) ∧ _ from ⟨(by omega), ha.keep (fk rfl (fk rfl (fk rfl (fk rfl (fk rfl (fk rfl (fk rfl fn))))))), h, u, cC, cW, ho, hp, (by omega)⟩)
            · refine za rfl (yb (decide_eq_false c23) (yi_lss rfl rfl rfl)) rfl rfl ?_
              refine lg_nil ?_
              refine nx (zk5 0 1 7 10 11 rfl rfl rfl rfl rfl (zk3 12 13 64 rfl rfl rfl fn)) ?_
              refine cg_cf rfl ?_
              refine cg_exit ?_
              refine eg_seq_exit ?_
              refine eg_seq_exit ?_
              refine eg_block_exit ?_
              refine nx (zk1 7 rfl fn) ?_
              refine cg_seq ?_
              refine cg_region ?_
              refine zM rfl rfl rfl rfl rfl ?_
              refine zA rfl rfl rfl rfl rfl ?_
              refine lg_nil ?_
              refine nx (zk1 6 rfl fn) ?_
              refine cg_ret ?_
              exact eg_ret_tmp rfl rfl ⟨_, rfl, rfl, u⟩
        · refine za rfl (yb (nd_t c9) (yi_neq rfl rfl rfl)) rfl rfl ?_
          refine lg_nil ?_
          refine nx (zk5 0 1 5 6 7 rfl rfl rfl rfl rfl (zk2 8 37 rfl rfl fn)) ?_
          refine cg_ct rfl ?_
          refine cg_seq ?_
          refine cg_region ?_
          refine zM rfl rfl rfl rfl rfl ?_
          refine zA rfl rfl rfl rfl rfl ?_
          refine lg_nil ?_
          refine nx (zk5 0 1 5 7 8 rfl rfl rfl rfl rfl (zk1 6 rfl fn)) ?_
          refine cg_ret ?_
          refine eg_seq_ret ?_
          have u := u.trans (hw2.mono u.size)
          have u := u.trans (hw4.mono u.size)
          have u := u.trans (hw7.mono u.size)
          have u := u.trans (hw8.mono u.size)
          exact eg_ret_tmp rfl rfl ⟨_, rfl, rfl, u⟩
      · refine lg_callw (want_t (dj := 23) (by rfl) (by kernel_rfl) rfl) (sane_any (h.more (B' := w4.heap.size) (by omega)) (Nat.le_refl _)) (by kernel_rfl) rfl rfl rfl (by decide) ?_
        rintro u32 w32 ⟨e32, hw32⟩
        have zw32 := hw32.size
        obtain rfl : u32 = .bool false := e32.trans (congrArg Value.bool (decide_eq_false c6))
        refine zt 23 rfl (by kernel_rfl) rfl (y_bnot rfl rfl) rfl rfl ?_
        refine za rfl (y_pick false rfl rfl rfl) rfl rfl ?_
        refine lg_nil ?_
        refine nx (zk5 0 1 5 6 7 rfl rfl rfl rfl rfl (zk1 27 rfl fn)) ?_
        refine cg_ct rfl ?_
        refine cg_seq ?_
        refine cg_region ?_
        refine zM rfl rfl rfl rfl rfl ?_
        refine zA rfl rfl rfl rfl rfl ?_
        refine lg_nil ?_
        refine nx (zk5 0 1 5 7 6 rfl rfl rfl rfl rfl fn) ?_
        refine cg_ret ?_
        refine eg_seq_ret ?_
        have u := u.trans (hw2.mono u.size)
        have u := u.trans (hw4.mono u.size)
        have u := u.trans (hw32.mono u.size)
        exact eg_ret_tmp rfl rfl ⟨_, rfl, rfl, u⟩
  · refine lg_callw (want_none (by rfl)) (fewR_any (h.more (B' := w2.heap.size) (by omega)) (Nat.le_refl _)) (by kernel_rfl) rfl rfl rfl (by decide) ?_
    rintro u33 w33 ⟨e33, hw33⟩
    have zw33 := hw33.size
    obtain rfl : u33 = .bool false := e33.trans (congrArg Value.bool (decide_eq_false c3))
    refine za rfl (y_bnot rfl rfl) rfl rfl ?_
    refine zM rfl rfl rfl rfl rfl ?_
    refine zf 18 rfl (by kernel_rfl) rfl rfl rfl ?_
    refine zf 18 rfl (by kernel_rfl) rfl rfl rfl ?_
    refine zf 18 rfl (by kernel_rfl) rfl rfl rfl ?_
    refine za rfl (y_pick true rfl rfl rfl) rfl rfl ?_
    refine zM rfl rfl rfl rfl rfl ?_
    refine zf 23 rfl (by kernel_rfl) rfl rfl rfl ?_
    refine zf 23 rfl (by kernel_rfl) rfl rfl rfl ?_
    refine zf 23 rfl (by kernel_rfl) rfl rfl rfl ?_
    refine za rfl (y_pick true rfl rfl rfl) rfl rfl ?_
    refine lg_nil ?_
    refine nx (zk5 0 1 5 6 7 rfl rfl rfl rfl rfl (zk1 27 rfl fn)) ?_
    refine cg_ct rfl ?_
    refine cg_seq ?_
    refine cg_region ?_
    refine zM rfl rfl rfl rfl rfl ?_
    refine zA rfl rfl rfl rfl rfl ?_
    refine lg_nil ?_
    refine nx (zk5 0 1 5 7 6 rfl rfl rfl rfl rfl fn) ?_
    refine cg_ret ?_
    refine eg_seq_ret ?_
    have u := u.trans (hw2.mono u.size)
    have u := u.trans (hw33.mono u.size)
    exact eg_ret_tmp rfl rfl ⟨_, rfl, rfl, u⟩
end Go.Proofs.YtkcpmpbjjnknhaaGreatDoor
