/-
  Trees: a leaf and its way up are blank.
-/
import Derived.Test.YtpoonjgkgaodmaaDoorTrRef
import Derived.Test.YtpoonjgkgaodmaaDoorWaFr
namespace Go.Proofs.YtpoonjgkgaodmaaDoor
open Go.ChangeShapes Go.WideShapes Go.ChangeAt Go.RowKit
set_option linter.unusedVariables false

def clearE (a : List Nd) (i : Int) : Int := if i < 0 ∨ ((leavesA (trAs a) : Nat) : Int) ≤ i then 3 else 0
def clearL (a : List Nd) (i : Int) : List Nd := if clearE a i = 0 then clr (dirI (2 * i) ((trAs a).length : Int)) ((trAs a).set (2 * i).toNat Nd.zero) else []
theorem clearE_no {a : List Nd} {i : Int} (h : i < 0 ∨ ((leavesA (trAs a) : Nat) : Int) ≤ i) : clearE a i = 3 := if_pos h
theorem clearE_ok {a : List Nd} {i : Int} (h : ¬ i < 0) (h2 : ¬ ((leavesA (trAs a) : Nat) : Int) ≤ i) : clearE a i = 0 := if_neg (fun q => q.elim h h2)
theorem clearL_no {a : List Nd} {i : Int} (h : clearE a i = 3) : clearL a i = [] := if_neg (by rw [h]; decide)
theorem clearL_ok {a : List Nd} {i : Int} (h : clearE a i = 0) : clearL a i = clr (dirI (2 * i) ((trAs a).length : Int)) ((trAs a).set (2 * i).toNat Nd.zero) := if_pos h
theorem clear_node {a : List Nd} {i : Int} (h : clearE a i = 0) : isN (2 * i) ((trAs a).length : Int) ∧ 0 ≤ i ∧ i < 64 := by
  unfold clearE leavesA at h
  split at h
  · exact absurd h (by decide)
  · have hl := trIs_len (trAs_is a)
    exact ⟨isN_of (trAs_is a) (by omega) (by omega), by omega, by omega⟩
theorem dir_node {x w : Int} (h : isN x w) {i : Nat} (hi : i < (dirI x w).length) : isN ((dirI x w).getD i 0) w := (way_at h hi).1
theorem dir_pos {x w : Int} (h : isN x w) : ∀ d ∈ dirI x w, 0 ≤ d := fun d hd => by
  obtain ⟨i, hi, e⟩ := mem_getD hd
  rw [← e]
  exact (dir_node h hi).2.1
theorem clr_step {a : List Nd} {ds : List Int} {t : Nat} (h : t < ds.length) : (clr (ds.take t) a).set (ds.getD t 0).toNat Nd.zero = clr (ds.take (t + 1)) a := by
  rw [take_succ_getD ds t h, clr_snoc]
theorem clone_any {W : World} {s : SlV} {Ls : List Nd} {bc : Nat} (h : RwNd W W.heap.size s Ls) (hb : bc = W.heap.size) (hpos : 0 < Ls.length) (hle : Ls.length ≤ 1000000) : Calls Tryd.prog 36 #[s.v] W fun e W' => ∃ v, e = .returned v ∧ ∃ r : SlV, v = r.v ∧ OwnNd W' bc bc r.v Ls ∧ Below W.heap.size W W' := by
  refine calls_cg (n := 8) Tryd.func36 rfl Tryd.ntmps36 (by simp) ?_
  show CG _ _ _ [(0, s.v)] _ _
  have u := Below.refl W.heap.size W
  have q1 := h.len
  have q2 := h.cap
  obtain ⟨b0, o0, hA, _⟩ := h.2.2.2 (by omega)
  refine cg_seq ?_
  refine cg_region ?_
  refine lsw (want_none (by rfl)) (y_assign rfl rfl) rfl (by decide) ?_
  refine lg_nil ?_
  refine nx (E' := [(0, _), (2, _)]) (fk rfl (fk rfl fn)) ?_
  refine cg_seq ?_
  refine cg_seq ?_
  refine cg_region ?_
  refine lsw (want_none (by rfl)) (y_move rfl rfl) rfl (by decide) ?_
  refine lsw (want_none (by rfl)) (y_nilR hA rfl rfl rfl) rfl (by decide) ?_
  refine lg_nil ?_
  refine nx (E' := [(0, _), (2, _), (4, _)]) (fk rfl (fk rfl (fk rfl fn))) ?_
  refine cg_cf rfl ?_
  refine cg_skip ?_
  refine nx (E' := [(0, _), (2, _)]) (fk rfl (fk rfl fn)) ?_
  refine cg_seq ?_
  refine cg_region ?_
  obtain ⟨bs2, hbs2⟩ : ∃ q, q = W.heap.size := ⟨_, rfl⟩
  refine lg_bs0R (want_none (by rfl)) rfl rfl (by decide) fun v1 w1 g1 l1 => ?_
  rw [← hbs2] at g1
  have z1 := l1.size
  refine lsw (want_none (by rfl)) (y_move rfl rfl) rfl (by decide) ?_
  have h := h.below (l1.mono (by omega))
  refine lg_appR g1 (h.src.more (B' := bs2) (by omega)) (Nat.le_refl _) (by first | omega | (simp only [List.length_nil]; omega)) (by omega) (want_none (by rfl)) rfl rfl rfl rfl rfl (by decide) fun r3 w3 g3 m3 l3 z3 => ?_
  rw [List.nil_append] at g3
  clear m3
  refine lsw (want_none (by rfl)) (y_assign rfl rfl) rfl (by decide) ?_
  refine lg_nil ?_
  refine nx (E' := [(2, _)]) (fk rfl fn) ?_
  refine cg_ret ?_
  have u := u.trans (l1.mono u.size)
  have u := u.trans (l3.mono (by omega))
  exact eg_ret_tmp rfl rfl ⟨_, rfl, _, rfl, by rw [hb]; first | assumption | (subst bs2; assumption), u⟩
theorem clear_any {W : World} {B : Nat} {s : SlV} {Ls : List Nd} (h : RwNd W B s Ls) (i : Int) (hB : B ≤ W.heap.size) (rg : Tb W) : Calls Tryd.prog 10 #[s.v, nv i] W fun e W' => ∃ v, e = .returned v ∧ ∃ s' : SlV, v = .tuple #[s'.v, nv (clearE Ls i)] ∧ RwNd W' W'.heap.size s' (clearL Ls i) ∧ Below W.heap.size W W' := by
  refine calls_cg (n := 43) Tryd.func10 rfl Tryd.ntmps10 (by simp) ?_
  show CG _ _ _ [(0, s.v), (1, nv i)] _ _
  have u := Below.refl W.heap.size W
  have q0 := trAs_le Ls
  have q5 : leavesA (trAs Ls) = ((trAs Ls).length + 1) / 2 := rfl
  have q7 := trIs_len (trAs_is Ls)
  refine cg_seq ?_
  refine cg_region ?_
  refine lsw (want_none (by rfl)) (y_assign rfl rfl) rfl (by decide) ?_
  refine lsw (want_none (by rfl)) (y_assign rfl rfl) rfl (by decide) ?_
  refine lg_nil ?_
  refine nx (E' := [(0, _), (1, _), (4, _), (5, _)]) (fk rfl (fk rfl (fk rfl (fk rfl fn)))) ?_
  refine cg_seq ?_
  refine cg_region ?_
  refine lsw (want_none (by rfl)) (y_move rfl rfl) rfl (by decide) ?_
  refine lg_callw (want_none (by rfl)) (tree_any h (by omega)) (by kernel_rfl) rfl rfl rfl (by decide) ?_
  rintro _ w1 ⟨s1, rfl, m1, f1, hw1⟩
  have zw1 := hw1.size
  have tl1 := trAs_le Ls
  refine lsw (want_none (by rfl)) (y_assign rfl rfl) rfl (by decide) ?_
  refine lg_nil ?_
  refine nx (E' := [(1, _), (4, _), (5, _), (0, _)]) (fk rfl (fk rfl (fk rfl (fk rfl fn)))) ?_
  refine cg_seq ?_
  refine cg_seq ?_
  refine cg_region ?_
  refine lsw (want_none (by rfl)) (y_move rfl rfl) rfl (by decide) ?_
  by_cases c2 : i < 0
  · refine lsw (want_none (by rfl)) (yb (decide_eq_true c2) (yi_lss rfl rfl rfl)) rfl (by decide) ?_
    refine lsw (want_none (by rfl)) (y_move rfl rfl) rfl (by decide) ?_
    refine lsk (want_f (dj := 14) (by rfl) (by kernel_rfl) rfl) rfl (by decide) ?_
    refine lsk (want_f (dj := 14) (by rfl) (by kernel_rfl) rfl) rfl (by decide) ?_
    refine lsk (want_f (dj := 14) (by rfl) (by kernel_rfl) rfl) rfl (by decide) ?_
    refine lsk (want_f (dj := 14) (by rfl) (by kernel_rfl) rfl) rfl (by decide) ?_
    refine lsw (want_none (by rfl)) (y_pick true rfl rfl rfl) rfl (by decide) ?_
    refine lg_nil ?_
    refine nx (E' := [(1, _), (4, _), (5, _), (0, _), (19, _)]) (fk rfl (fk rfl (fk rfl (fk rfl (fk rfl fn))))) ?_
    refine cg_ct rfl ?_
    refine cg_seq ?_
    refine cg_region ?_
    refine lsw (want_none (by rfl)) (y_assign rfl rfl) rfl (by decide) ?_
    refine lsw (want_none (by rfl)) (y_assign rfl rfl) rfl (by decide) ?_
    refine lg_nil ?_
    refine nx (E' := [(1, _), (0, _), (4, _), (5, _)]) (fk rfl (fk rfl (fk rfl (fk rfl fn)))) ?_
    refine cg_ret ?_
    refine eg_seq_ret ?_
    have u := u.trans (hw1.mono u.size)
    have no := clearE_no (a := Ls) (i := i) (by omega)
    exact eg_ret_tmp2 rfl rfl rfl ⟨_, rfl, nilS, congrArg (fun q => Value.tuple #[nilS.v, nv q]) no.symm, (RwNd.nil _ _).cast (clearL_no no).symm, u⟩
  · refine lsw (want_none (by rfl)) (yb (decide_eq_false c2) (yi_lss rfl rfl rfl)) rfl (by decide) ?_
    refine lsw (want_none (by rfl)) (y_move rfl rfl) rfl (by decide) ?_
    refine lsw (want_t (dj := 14) (by rfl) (by kernel_rfl) rfl) (y_move rfl rfl) rfl (by decide) ?_
    refine lsw (want_t (dj := 14) (by rfl) (by kernel_rfl) rfl) (y_move rfl rfl) rfl (by decide) ?_
    refine lsw (want_t (dj := 14) (by rfl) (by kernel_rfl) rfl) (y_call (leaves_any s1 (trAs Ls) _ (by have q1 := m1.len; omega) (by omega)) (by kernel_rfl) rfl rfl) rfl (by decide) ?_
    by_cases c3 : ((leavesA (trAs Ls) : Nat) : Int) ≤ i
    · refine lsw (want_t (dj := 14) (by rfl) (by kernel_rfl) rfl) (yb (decide_eq_true c3) (yi_geq rfl rfl rfl)) rfl (by decide) ?_
      refine lsw (want_none (by rfl)) (y_pick false rfl rfl rfl) rfl (by decide) ?_
      refine lg_nil ?_
      refine nx (E' := [(1, _), (4, _), (5, _), (0, _), (19, _)]) (fk rfl (fk rfl (fk rfl (fk rfl (fk rfl fn))))) ?_
      refine cg_ct rfl ?_
      refine cg_seq ?_
      refine cg_region ?_
      refine lsw (want_none (by rfl)) (y_assign rfl rfl) rfl (by decide) ?_
      refine lsw (want_none (by rfl)) (y_assign rfl rfl) rfl (by decide) ?_
      refine lg_nil ?_
      refine nx (E' := [(1, _), (0, _), (4, _), (5, _)]) (fk rfl (fk rfl (fk rfl (fk rfl fn)))) ?_
      refine cg_ret ?_
      refine eg_seq_ret ?_
      have u := u.trans (hw1.mono u.size)
      have no := clearE_no (a := Ls) (i := i) (by omega)
      exact eg_ret_tmp2 rfl rfl rfl ⟨_, rfl, nilS, congrArg (fun q => Value.tuple #[nilS.v, nv q]) no.symm, (RwNd.nil _ _).cast (clearL_no no).symm, u⟩
    · have ok := clearE_ok (by omega) c3
      have hN := (clear_node ok).1
      have hN2 := hN.le
      refine lsw (want_t (dj := 14) (by rfl) (by kernel_rfl) rfl) (yb (decide_eq_false c3) (yi_geq rfl rfl rfl)) rfl (by decide) ?_
      refine lsw (want_none (by rfl)) (y_pick false rfl rfl rfl) rfl (by decide) ?_
      refine lg_nil ?_
      refine nx (E' := [(1, _), (4, _), (5, _), (0, _), (19, _)]) (fk rfl (fk rfl (fk rfl (fk rfl (fk rfl fn))))) ?_
      refine cg_cf rfl ?_
      refine cg_skip ?_
      refine nx (E' := [(1, _), (4, _), (5, _), (0, _)]) (fk rfl (fk rfl (fk rfl (fk rfl fn)))) ?_
      refine cg_seq ?_
      refine cg_region ?_
      refine lsw (want_none (by rfl)) (y_move rfl rfl) rfl (by decide) ?_
      refine lsw (want_none (by rfl)) (yi_mul rfl rfl rfl (by omega) (by omega)) rfl (by decide) ?_
      refine lsw (want_none (by rfl)) (y_assign rfl rfl) rfl (by decide) ?_
      refine lg_nil ?_
      refine nx (E' := [(4, _), (5, _), (0, _), (6, _)]) (fk rfl (fk rfl (fk rfl (fk rfl fn)))) ?_
      refine cg_seq ?_
      refine cg_region ?_
      refine lsw (want_none (by rfl)) (y_move rfl rfl) rfl (by decide) ?_
      obtain ⟨bc, hbc⟩ : ∃ q, q = w1.heap.size := ⟨_, rfl⟩
      refine lg_callw (want_none (by rfl)) (clone_any (m1.more (B' := w1.heap.size) (by omega)) hbc (by first | omega | (simp only [List.length_append, List.length_cons, List.length_nil, List.length_take, List.length_drop, List.length_set, List.length_replicate, clr_len]; omega)) (by first | omega | (simp only [List.length_append, List.length_cons, List.length_nil, List.length_take, List.length_drop, List.length_set, List.length_replicate, clr_len]; omega))) (by kernel_rfl) rfl rfl rfl (by decide) ?_
      rintro _ w4 ⟨s4, rfl, g4, hw4⟩
      have zw4 := hw4.size
      refine lsw (want_none (by rfl)) (y_assign rfl rfl) rfl (by decide) ?_
      refine lg_nil ?_
      refine nx (E' := [(4, _), (5, _), (0, _), (6, _), (7, _)]) (fk rfl (fk rfl (fk rfl (fk rfl (fk rfl fn))))) ?_
      refine cg_seq ?_
      refine cg_region ?_
      refine lsw (want_none (by rfl)) (y_move rfl rfl) rfl (by decide) ?_
      refine lsw (want_none (by rfl)) (yv (congrArg nv (show 2 * i = (((2 * i).toNat : Nat) : Int) by omega)) (y_move rfl rfl)) rfl (by decide) ?_
      refine lsw (want_none (by rfl)) (y_build (cs := NdV.zero.cs Nd.zero) rfl rfl (by kernel_rfl)) rfl (by decide) ?_
      obtain ⟨gb6, gA6, gl6, gu6⟩ := g4.addr (i := ((2 * i).toNat)) (by first | omega | (simp only [List.length_append, List.length_cons, List.length_nil, List.length_take, List.length_drop, List.length_set, List.length_replicate, clr_len]; omega))
      refine lsw (want_none (by rfl)) (y_ixR (s := s4) (el := 30) (k := 8) (i := ((2 * i).toNat)) (iI := (((2 * i).toNat : Nat) : Int)) gA6 (by kernel_rfl) (by kernel_rfl) (by omega) (by have q1 := (g4.rowS (by omega)).len; first | omega | (simp only [List.length_append, List.length_cons, List.length_nil, List.length_take, List.length_drop, List.length_set, List.length_replicate, clr_len] at q1; omega)) rfl rfl rfl) rfl (by decide) ?_
      refine lg_stR (i := ((2 * i).toNat)) g4 (IsNd.zero _ _) (Nat.le_refl _) (by first | omega | (simp only [List.length_append, List.length_cons, List.length_nil, List.length_take, List.length_drop, List.length_set, List.length_replicate, clr_len]; omega)) gA6 (want_none (by rfl)) rfl rfl rfl rfl fun w7 old7 new7 ro7 st7 g7 l7 z7 => ?_
      refine lg_nil ?_
      refine nx (E' := [(4, _), (5, _), (0, _), (6, _), (7, _)]) (fk rfl (fk rfl (fk rfl (fk rfl (fk rfl fn))))) ?_
      refine cg_seq ?_
      refine cg_seq ?_
      refine cg_region ?_
      refine lsw (want_none (by rfl)) (y_move rfl rfl) rfl (by decide) ?_
      refine lsw (want_none (by rfl)) (y_move rfl rfl) rfl (by decide) ?_
      have m1 := m1.below (hw4.mono (by omega))
      have m1 := m1.below (l7.mono (by omega))
      refine lsw (want_none (by rfl)) (y_lenM (el := 30) m1.len (by kernel_rfl) rfl rfl) rfl (by decide) ?_
      have u := u.trans (hw1.mono u.size)
      have u := u.trans (hw4.mono u.size)
      have u := u.trans (l7.mono (by omega))
      refine lg_callw (want_none (by rfl)) (directF (2 * i) ((trAs Ls).length : Int) _ (rg.up u)) (by kernel_rfl) rfl rfl rfl (by decide) ?_
      rintro _ w8 ⟨s8, rfl, m8, f8, hw8⟩
      have zw8 := hw8.size
      have dl8 := dirL (2 * i) ((trAs Ls).length : Int)
      refine lsw (want_none (by rfl)) (y_lenM (el := 3) m8.len (by kernel_rfl) rfl rfl) rfl (by decide) ?_
      refine lsw (want_none (by rfl)) (y_move rfl rfl) rfl (by decide) ?_
      refine lg_nil ?_
      refine nx (E' := [(4, _), (5, _), (7, _), (31, _), (32, _), (33, _)]) (fk rfl (fk rfl (fk rfl (fk rfl (fk rfl (fk rfl fn)))))) ?_
      refine cg_block ?_
      obtain ⟨C, hC⟩ : ∃ q, q = w8.heap.size := ⟨_, rfl⟩
      have g7 := g7.keep hw8 (by omega)
      have u := u.trans (hw8.mono u.size)
      refine cg_loopE (fun t a v => Holds 43 [(7, s4.v), (31, s8.v), (33, nv ((t : Nat) : Int)), (32, nv ((dirI (2 * i) ((trAs Ls).length : Int)).length : Int))] a ∧ SlN v C s8 (dirI (2 * i) ((trAs Ls).length : Int)) ∧ OwnNd v bc bc s4.v (clr ((dirI (2 * i) ((trAs Ls).length : Int)).take t) ((trAs Ls).set (2 * i).toNat Nd.zero)) ∧ bc ≤ v.heap.size ∧ w8.heap.size ≤ v.heap.size ∧ t ≤ (dirI (2 * i) ((trAs Ls).length : Int)).length ∧ Below W.heap.size W v) ((dirI (2 * i) ((trAs Ls).length : Int)).length + 1) (fun a ha => ⟨ha.keep (fk rfl (fk rfl (fk rfl (fk rfl fn)))), (m8.more (by omega)), g7, (by omega), (Nat.le_refl _), (Nat.zero_le _), u⟩) ?_
      rintro t a v ht ⟨ha, hd, ho, hs, hs2, tle, u⟩
      refine cg_at ha ?_
      clear ha a
      have zv := u.size
      have dl := dirL (2 * i) ((trAs Ls).length : Int)
      refine cg_seq ?_
      refine cg_region ?_
      by_cases c9 : ((t : Nat) : Int) < ((dirI (2 * i) ((trAs Ls).length : Int)).length : Int)
      · have hdn := (dir_node hN (show t < (dirI (2 * i) ((trAs Ls).length : Int)).length by omega)).le
        refine lsw (want_none (by rfl)) (yb (decide_eq_true c9) (yi_lss rfl rfl rfl)) rfl (by decide) ?_
        refine lg_nil ?_
        refine nx (E' := [(7, _), (31, _), (33, _), (32, _), (34, _)]) (fk rfl (fk rfl (fk rfl (fk rfl (fk rfl fn))))) ?_
        refine cg_seq ?_
        refine cg_ct rfl ?_
        refine cg_skip ?_
        refine nx (E' := [(7, _), (31, _), (33, _), (32, _), (34, _)]) (fk rfl (fk rfl (fk rfl (fk rfl (fk rfl fn))))) ?_
        refine cg_seq ?_
        refine cg_block ?_
        refine cg_seq ?_
        refine cg_region ?_
        refine lsw (want_none (by rfl)) (y_ixT (i := t) (iI := ((t : Nat) : Int)) hd (by omega) (by first | omega | (simp only [List.length_append, List.length_cons, List.length_nil]; omega)) rfl rfl rfl) rfl (by decide) ?_
        refine lsw (want_none (by rfl)) (y_ldT (i := t) hd (by first | omega | (simp only [List.length_append, List.length_cons, List.length_nil]; omega)) rfl rfl) rfl (by decide) ?_
        refine lsw (want_none (by rfl)) (y_assign rfl rfl) rfl (by decide) ?_
        refine lg_nil ?_
        refine nx (E' := [(7, _), (31, _), (33, _), (32, _), (34, _), (35, _), (36, _), (9, _)]) (fk rfl (fk rfl (fk rfl (fk rfl (fk rfl (fk rfl (fk rfl (fk rfl fn)))))))) ?_
        refine cg_region ?_
        refine lsw (want_none (by rfl)) (y_move rfl rfl) rfl (by decide) ?_
        refine lsw (want_none (by rfl)) (yv (congrArg nv (show (dirI (2 * i) ((trAs Ls).length : Int)).getD t 0 = ((((dirI (2 * i) ((trAs Ls).length : Int)).getD t 0).toNat : Nat) : Int) by omega)) (y_move rfl rfl)) rfl (by decide) ?_
        refine lsw (want_none (by rfl)) (y_build (cs := NdV.zero.cs Nd.zero) rfl rfl (by kernel_rfl)) rfl (by decide) ?_
        refine lsw (want_none (by rfl)) (y_ixR (s := s4) (el := 30) (k := 8) (i := (((dirI (2 * i) ((trAs Ls).length : Int)).getD t 0).toNat)) (iI := ((((dirI (2 * i) ((trAs Ls).length : Int)).getD t 0).toNat : Nat) : Int)) gA6 (by kernel_rfl) (by kernel_rfl) (by omega) (by have q1 := (ho.rowS (by omega)).len; first | omega | (simp only [List.length_set, clr_len] at q1; omega)) rfl rfl rfl) rfl (by decide) ?_
        refine lg_stR (i := (((dirI (2 * i) ((trAs Ls).length : Int)).getD t 0).toNat)) ho (IsNd.zero _ _) (Nat.le_refl _) (by first | omega | (simp only [List.length_set, clr_len]; omega)) gA6 (want_none (by rfl)) rfl rfl rfl rfl fun w10 old10 new10 ro10 st10 g10 l10 z10 => ?_
        refine lg_nil ?_
        refine eg_block_norm ?_
        refine nx (E' := [(7, _), (31, _), (33, _), (32, _), (34, _), (35, _), (36, _), (9, _), (37, _), (38, _), (39, _), (40, _)]) (fk rfl (fk rfl (fk rfl (fk rfl (fk rfl (fk rfl (fk rfl (fk rfl (fk rfl (fk rfl (fk rfl (fk rfl fn)))))))))))) ?_
        refine cg_region ?_
        refine lsw (want_none (by rfl)) (yv (congrArg nv (show ((t : Nat) : Int) + 1 = ((t + 1 : Nat) : Int) by omega)) (yi_add rfl rfl rfl (by omega) (by omega))) rfl (by decide) ?_
        refine lsw (want_none (by rfl)) (y_move rfl rfl) rfl (by decide) ?_
        refine lg_nil ?_
        have hd := hd.setf f8 (by omega) st10
        have hs := (show bc ≤ w10.heap.size by omega)
        have hs2 := (show w8.heap.size ≤ w10.heap.size by omega)
        have u := u.trans (l10.mono (by omega))
        exact fun a ha => (show t < ((dirI (2 * i) ((trAs Ls).length : Int)).length + 1) ∧ _ from ⟨(by omega), ha.keep (fk rfl (fk rfl (fk rfl (fk rfl fn)))), hd, (g10.cast (clr_step (by omega))), hs, hs2, (by omega), u⟩)
      · refine lsw (want_none (by rfl)) (yb (decide_eq_false c9) (yi_lss rfl rfl rfl)) rfl (by decide) ?_
        refine lg_nil ?_
        refine nx (E' := [(7, _), (31, _), (33, _), (32, _), (34, _)]) (fk rfl (fk rfl (fk rfl (fk rfl (fk rfl fn))))) ?_
        refine cg_seq ?_
        refine cg_cf rfl ?_
        refine cg_exit ?_
        refine eg_seq_exit ?_
        refine eg_seq_exit ?_
        refine eg_block_exit ?_
        refine nx (E' := [(7, _)]) (fk rfl fn) ?_
        refine cg_seq ?_
        refine cg_region ?_
        refine lsw (want_none (by rfl)) (y_move rfl rfl) rfl (by decide) ?_
        refine lsw (want_none (by rfl)) (y_assign rfl rfl) rfl (by decide) ?_
        refine lsw (want_none (by rfl)) (y_assign rfl rfl) rfl (by decide) ?_
        refine lg_nil ?_
        refine nx (E' := [(4, _), (5, _)]) (fk rfl (fk rfl fn)) ?_
        refine cg_ret ?_
        have et : t = (dirI (2 * i) ((trAs Ls).length : Int)).length := by omega
        exact eg_ret_tmp2 rfl rfl rfl ⟨_, rfl, _, congrArg (fun q => Value.tuple #[s4.v, nv q]) ok.symm, (ho.rowS (by omega)).cast (by rw [et, List.take_length]; exact (clearL_ok ok).symm), u⟩
theorem rclear_any {W : World} {B : Nat} {s : SlV} {Ls : List Nd} (h : RwNd W B s Ls) (i : Int) (hB : B ≤ W.heap.size) (rg : Tb W) : Calls Tryd.prog 11 #[s.v, nv i] W fun e W' => ∃ v, e = .returned v ∧ ∃ s' : SlV, v = .tuple #[s'.v, nv (clearE Ls i)] ∧ RwNd W' W'.heap.size s' (clearL Ls i) ∧ Below W.heap.size W W' := by
  refine calls_cg (n := 45) Tryd.func11 rfl Tryd.ntmps11 (by simp) ?_
  show CG _ _ _ [(0, s.v), (1, nv i)] _ _
  have u := Below.refl W.heap.size W
  have q0 := trAs_le Ls
  have q5 : leavesA (trAs Ls) = ((trAs Ls).length + 1) / 2 := rfl
  have q7 := trIs_len (trAs_is Ls)
  refine cg_seq ?_
  refine cg_region ?_
  refine lsw (want_none (by rfl)) (y_assign rfl rfl) rfl (by decide) ?_
  refine lsw (want_none (by rfl)) (y_assign rfl rfl) rfl (by decide) ?_
  refine lg_nil ?_
  refine nx (E' := [(0, _), (1, _), (4, _), (5, _)]) (fk rfl (fk rfl (fk rfl (fk rfl fn)))) ?_
  refine cg_seq ?_
  refine cg_region ?_
  obtain ⟨bs2, hbs2⟩ : ∃ q, q = W.heap.size := ⟨_, rfl⟩
  refine lg_bs0R (want_none (by rfl)) rfl rfl (by decide) fun v1 w1 g1 l1 => ?_
  rw [← hbs2] at g1
  have z1 := l1.size
  refine lsw (want_none (by rfl)) (y_move rfl rfl) rfl (by decide) ?_
  have h := h.below (l1.mono (by omega))
  refine lg_callw (want_none (by rfl)) (as_any h (by omega)) (by kernel_rfl) rfl rfl rfl (by decide) ?_
  rintro _ w3 ⟨s3, rfl, m3, hw3⟩
  have zw3 := hw3.size
  have tl3 := trAs_le Ls
  have g1 := g1.keep hw3 (by omega)
  refine lg_appR g1 (m3.src.more (B' := bs2) (by omega)) (Nat.le_refl _) (by first | omega | (simp only [List.length_nil]; omega)) (by omega) (want_none (by rfl)) rfl rfl rfl rfl rfl (by decide) fun r4 w4 g4 m4 l4 z4 => ?_
  rw [List.nil_append] at g4
  clear m4
  refine lsw (want_none (by rfl)) (y_assign rfl rfl) rfl (by decide) ?_
  refine lg_nil ?_
  refine nx (E' := [(0, _), (1, _), (4, _), (5, _), (6, _)]) (fk rfl (fk rfl (fk rfl (fk rfl (fk rfl fn))))) ?_
  refine cg_seq ?_
  refine cg_seq ?_
  refine cg_region ?_
  refine lsw (want_none (by rfl)) (y_move rfl rfl) rfl (by decide) ?_
  by_cases c5 : i < 0
  · refine lsw (want_none (by rfl)) (yb (decide_eq_true c5) (yi_lss rfl rfl rfl)) rfl (by decide) ?_
    refine lsw (want_none (by rfl)) (y_move rfl rfl) rfl (by decide) ?_
    refine lsk (want_f (dj := 15) (by rfl) (by kernel_rfl) rfl) rfl (by decide) ?_
    refine lsk (want_f (dj := 15) (by rfl) (by kernel_rfl) rfl) rfl (by decide) ?_
    refine lsk (want_f (dj := 15) (by rfl) (by kernel_rfl) rfl) rfl (by decide) ?_
    refine lsk (want_f (dj := 15) (by rfl) (by kernel_rfl) rfl) rfl (by decide) ?_
    refine lsw (want_none (by rfl)) (y_pick true rfl rfl rfl) rfl (by decide) ?_
    refine lg_nil ?_
    refine nx (E' := [(1, _), (4, _), (5, _), (6, _), (20, _)]) (fk rfl (fk rfl (fk rfl (fk rfl (fk rfl fn))))) ?_
    refine cg_ct rfl ?_
    refine cg_seq ?_
    refine cg_region ?_
    refine lsw (want_none (by rfl)) (y_assign rfl rfl) rfl (by decide) ?_
    refine lsw (want_none (by rfl)) (y_assign rfl rfl) rfl (by decide) ?_
    refine lg_nil ?_
    refine nx (E' := [(1, _), (6, _), (4, _), (5, _)]) (fk rfl (fk rfl (fk rfl (fk rfl fn)))) ?_
    refine cg_ret ?_
    refine eg_seq_ret ?_
    have u := u.trans (l1.mono u.size)
    have u := u.trans (hw3.mono u.size)
    have u := u.trans (l4.mono (by omega))
    have no := clearE_no (a := Ls) (i := i) (by omega)
    exact eg_ret_tmp2 rfl rfl rfl ⟨_, rfl, nilS, congrArg (fun q => Value.tuple #[nilS.v, nv q]) no.symm, (RwNd.nil _ _).cast (clearL_no no).symm, u⟩
  · refine lsw (want_none (by rfl)) (yb (decide_eq_false c5) (yi_lss rfl rfl rfl)) rfl (by decide) ?_
    refine lsw (want_none (by rfl)) (y_move rfl rfl) rfl (by decide) ?_
    refine lsw (want_t (dj := 15) (by rfl) (by kernel_rfl) rfl) (y_move rfl rfl) rfl (by decide) ?_
    refine lsw (want_t (dj := 15) (by rfl) (by kernel_rfl) rfl) (y_move rfl rfl) rfl (by decide) ?_
    have h := h.below (hw3.mono (by omega))
    have h := h.below (l4.mono (by omega))
    refine lg_callw (want_t (dj := 15) (by rfl) (by kernel_rfl) rfl) (rleavesT_any (h.more (B' := w4.heap.size) (by omega)) (Nat.le_refl _)) (by kernel_rfl) rfl rfl rfl (by decide) ?_
    rintro _ w6 ⟨rfl, hw6⟩
    have zw6 := hw6.size
    by_cases c7 : ((leavesA (trAs Ls) : Nat) : Int) ≤ i
    · refine lsw (want_t (dj := 15) (by rfl) (by kernel_rfl) rfl) (yb (decide_eq_true c7) (yi_geq rfl rfl rfl)) rfl (by decide) ?_
      refine lsw (want_none (by rfl)) (y_pick false rfl rfl rfl) rfl (by decide) ?_
      refine lg_nil ?_
      refine nx (E' := [(1, _), (4, _), (5, _), (6, _), (20, _)]) (fk rfl (fk rfl (fk rfl (fk rfl (fk rfl fn))))) ?_
      refine cg_ct rfl ?_
      refine cg_seq ?_
      refine cg_region ?_
      refine lsw (want_none (by rfl)) (y_assign rfl rfl) rfl (by decide) ?_
      refine lsw (want_none (by rfl)) (y_assign rfl rfl) rfl (by decide) ?_
      refine lg_nil ?_
      refine nx (E' := [(1, _), (6, _), (4, _), (5, _)]) (fk rfl (fk rfl (fk rfl (fk rfl fn)))) ?_
      refine cg_ret ?_
      refine eg_seq_ret ?_
      have u := u.trans (l1.mono u.size)
      have u := u.trans (hw3.mono u.size)
      have u := u.trans (l4.mono (by omega))
      have u := u.trans (hw6.mono u.size)
      have no := clearE_no (a := Ls) (i := i) (by omega)
      exact eg_ret_tmp2 rfl rfl rfl ⟨_, rfl, nilS, congrArg (fun q => Value.tuple #[nilS.v, nv q]) no.symm, (RwNd.nil _ _).cast (clearL_no no).symm, u⟩
    · have ok := clearE_ok (by omega) c7
      have hN := (clear_node ok).1
      have hN2 := hN.le
      refine lsw (want_t (dj := 15) (by rfl) (by kernel_rfl) rfl) (yb (decide_eq_false c7) (yi_geq rfl rfl rfl)) rfl (by decide) ?_
      refine lsw (want_none (by rfl)) (y_pick false rfl rfl rfl) rfl (by decide) ?_
      refine lg_nil ?_
      refine nx (E' := [(1, _), (4, _), (5, _), (6, _), (20, _)]) (fk rfl (fk rfl (fk rfl (fk rfl (fk rfl fn))))) ?_
      refine cg_cf rfl ?_
      refine cg_skip ?_
      refine nx (E' := [(1, _), (4, _), (5, _), (6, _)]) (fk rfl (fk rfl (fk rfl (fk rfl fn)))) ?_
      refine cg_seq ?_
      refine cg_region ?_
      refine lsw (want_none (by rfl)) (y_move rfl rfl) rfl (by decide) ?_
      refine lsw (want_none (by rfl)) (y_move rfl rfl) rfl (by decide) ?_
      refine lsw (want_none (by rfl)) (yv (congrArg nv (show 2 * i = (((2 * i).toNat : Nat) : Int) by omega)) (yi_mul rfl rfl rfl (by omega) (by omega))) rfl (by decide) ?_
      refine lsw (want_none (by rfl)) (y_build (cs := NdV.zero.cs Nd.zero) rfl rfl (by kernel_rfl)) rfl (by decide) ?_
      have g4 := g4.keep hw6 (by omega)
      obtain ⟨gb8, gA8, gl8, gu8⟩ := g4.addr (i := ((2 * i).toNat)) (by first | omega | (simp only [List.length_append, List.length_cons, List.length_nil, List.length_take, List.length_drop, List.length_set, List.length_replicate, clr_len]; omega))
      refine lsw (want_none (by rfl)) (y_ixR (s := r4) (el := 30) (k := 8) (i := ((2 * i).toNat)) (iI := (((2 * i).toNat : Nat) : Int)) gA8 (by kernel_rfl) (by kernel_rfl) (by omega) (by have q1 := (g4.rowS (by omega)).len; first | omega | (simp only [List.length_append, List.length_cons, List.length_nil, List.length_take, List.length_drop, List.length_set, List.length_replicate, clr_len] at q1; omega)) rfl rfl rfl) rfl (by decide) ?_
      refine lg_stR (i := ((2 * i).toNat)) g4 (IsNd.zero _ _) (Nat.le_refl _) (by first | omega | (simp only [List.length_append, List.length_cons, List.length_nil, List.length_take, List.length_drop, List.length_set, List.length_replicate, clr_len]; omega)) gA8 (want_none (by rfl)) rfl rfl rfl rfl fun w9 old9 new9 ro9 st9 g9 l9 z9 => ?_
      refine lg_nil ?_
      refine nx (E' := [(1, _), (4, _), (5, _), (6, _)]) (fk rfl (fk rfl (fk rfl (fk rfl fn)))) ?_
      refine cg_seq ?_
      refine cg_region ?_
      refine lsw (want_none (by rfl)) (y_move rfl rfl) rfl (by decide) ?_
      refine lsw (want_none (by rfl)) (yi_mul rfl rfl rfl (by omega) (by omega)) rfl (by decide) ?_
      refine lsw (want_none (by rfl)) (y_move rfl rfl) rfl (by decide) ?_
      refine lsw (want_none (by rfl)) (yv (congrArg nv (by rw [List.length_set])) (y_lenM (el := 30) (g9.rowS (by omega)).len (by kernel_rfl) rfl rfl)) rfl (by decide) ?_
      have u := u.trans (l1.mono u.size)
      have u := u.trans (hw3.mono u.size)
      have u := u.trans (l4.mono (by omega))
      have u := u.trans (hw6.mono u.size)
      have u := u.trans (l9.mono (by omega))
      refine lg_callw (want_none (by rfl)) (rdirectF (2 * i) ((trAs Ls).length : Int) _ (rg.up u)) (by kernel_rfl) rfl rfl rfl (by decide) ?_
      rintro _ w10 ⟨s10, rfl, m10, f10, hw10⟩
      have zw10 := hw10.size
      have dl10 := dirL (2 * i) ((trAs Ls).length : Int)
      refine lsw (want_none (by rfl)) (y_assign rfl rfl) rfl (by decide) ?_
      refine lg_nil ?_
      refine nx (E' := [(4, _), (5, _), (6, _), (7, _)]) (fk rfl (fk rfl (fk rfl (fk rfl fn)))) ?_
      refine cg_seq ?_
      refine cg_seq ?_
      refine cg_region ?_
      refine lsw (want_none (by rfl)) (y_assign rfl rfl) rfl (by decide) ?_
      refine lg_nil ?_
      refine nx (E' := [(4, _), (5, _), (6, _), (7, _), (8, _)]) (fk rfl (fk rfl (fk rfl (fk rfl (fk rfl fn))))) ?_
      refine cg_block ?_
      obtain ⟨C, hC⟩ : ∃ q, q = w10.heap.size := ⟨_, rfl⟩
      have g9 := g9.keep hw10 (by omega)
      have u := u.trans (hw10.mono u.size)
      refine cg_loopE (fun t a v => Holds 45 [(6, r4.v), (7, s10.v), (8, nv ((t : Nat) : Int))] a ∧ SlN v C s10 (dirI (2 * i) ((trAs Ls).length : Int)) ∧ OwnNd v bs2 bs2 r4.v (clr ((dirI (2 * i) ((trAs Ls).length : Int)).take t) ((trAs Ls).set (2 * i).toNat Nd.zero)) ∧ bs2 ≤ v.heap.size ∧ w10.heap.size ≤ v.heap.size ∧ t ≤ (dirI (2 * i) ((trAs Ls).length : Int)).length ∧ Below W.heap.size W v) ((dirI (2 * i) ((trAs Ls).length : Int)).length + 1) (fun a ha => ⟨ha.keep (fk rfl (fk rfl (fk rfl fn))), (m10.more (by omega)), g9, (by omega), (Nat.le_refl _), (Nat.zero_le _), u⟩) ?_
      rintro t a v ht ⟨ha, hd, ho, hs, hs2, tle, u⟩
      refine cg_at ha ?_
      clear ha a
      have zv := u.size
      have dl := dirL (2 * i) ((trAs Ls).length : Int)
      refine cg_seq ?_
      refine cg_seq ?_
      refine cg_region ?_
      refine lsw (want_none (by rfl)) (y_move rfl rfl) rfl (by decide) ?_
      refine lsw (want_none (by rfl)) (y_move rfl rfl) rfl (by decide) ?_
      refine lsw (want_none (by rfl)) (y_lenM (el := 3) hd.len (by kernel_rfl) rfl rfl) rfl (by decide) ?_
      by_cases c11 : ((t : Nat) : Int) < ((dirI (2 * i) ((trAs Ls).length : Int)).length : Int)
      · have hdn := (dir_node hN (show t < (dirI (2 * i) ((trAs Ls).length : Int)).length by omega)).le
        refine lsw (want_none (by rfl)) (yb (decide_eq_true c11) (yi_lss rfl rfl rfl)) rfl (by decide) ?_
        refine lg_nil ?_
        refine nx (E' := [(6, _), (7, _), (8, _), (31, _), (32, _), (33, _), (34, _)]) (fk rfl (fk rfl (fk rfl (fk rfl (fk rfl (fk rfl (fk rfl fn))))))) ?_
        refine cg_ct rfl ?_
        refine cg_skip ?_
        refine nx (E' := [(6, _), (7, _), (8, _), (31, _), (32, _), (33, _), (34, _)]) (fk rfl (fk rfl (fk rfl (fk rfl (fk rfl (fk rfl (fk rfl fn))))))) ?_
        refine cg_seq ?_
        refine cg_block ?_
        refine cg_region ?_
        refine lsw (want_none (by rfl)) (y_move rfl rfl) rfl (by decide) ?_
        refine lsw (want_none (by rfl)) (y_move rfl rfl) rfl (by decide) ?_
        refine lsw (want_none (by rfl)) (y_move rfl rfl) rfl (by decide) ?_
        refine lsw (want_none (by rfl)) (y_ixT (i := t) (iI := ((t : Nat) : Int)) hd (by omega) (by first | omega | (simp only [List.length_append, List.length_cons, List.length_nil]; omega)) rfl rfl rfl) rfl (by decide) ?_
        refine lsw (want_none (by rfl)) (yv (congrArg nv (show (dirI (2 * i) ((trAs Ls).length : Int)).getD t 0 = ((((dirI (2 * i) ((trAs Ls).length : Int)).getD t 0).toNat : Nat) : Int) by omega)) (y_ldT (i := t) hd (by first | omega | (simp only [List.length_append, List.length_cons, List.length_nil]; omega)) rfl rfl)) rfl (by decide) ?_
        refine lsw (want_none (by rfl)) (y_build (cs := NdV.zero.cs Nd.zero) rfl rfl (by kernel_rfl)) rfl (by decide) ?_
        refine lsw (want_none (by rfl)) (y_ixR (s := r4) (el := 30) (k := 8) (i := (((dirI (2 * i) ((trAs Ls).length : Int)).getD t 0).toNat)) (iI := ((((dirI (2 * i) ((trAs Ls).length : Int)).getD t 0).toNat : Nat) : Int)) gA8 (by kernel_rfl) (by kernel_rfl) (by omega) (by have q1 := (ho.rowS (by omega)).len; first | omega | (simp only [List.length_set, clr_len] at q1; omega)) rfl rfl rfl) rfl (by decide) ?_
        refine lg_stR (i := (((dirI (2 * i) ((trAs Ls).length : Int)).getD t 0).toNat)) ho (IsNd.zero _ _) (Nat.le_refl _) (by first | omega | (simp only [List.length_set, clr_len]; omega)) gA8 (want_none (by rfl)) rfl rfl rfl rfl fun w12 old12 new12 ro12 st12 g12 l12 z12 => ?_
        refine lg_nil ?_
        refine eg_block_norm ?_
        refine nx (E' := [(6, _), (7, _), (8, _), (31, _), (32, _), (33, _), (34, _), (37, _), (38, _), (39, _), (40, _), (41, _), (42, _), (43, _)]) (fk rfl (fk rfl (fk rfl (fk rfl (fk rfl (fk rfl (fk rfl (fk rfl (fk rfl (fk rfl (fk rfl (fk rfl (fk rfl (fk rfl fn)))))))))))))) ?_
        refine cg_region ?_
        refine lsw (want_none (by rfl)) (y_move rfl rfl) rfl (by decide) ?_
        refine lsw (want_none (by rfl)) (yv (congrArg nv (show ((t : Nat) : Int) + 1 = ((t + 1 : Nat) : Int) by omega)) (yi_add rfl rfl rfl (by omega) (by omega))) rfl (by decide) ?_
        refine lsw (want_none (by rfl)) (y_assign rfl rfl) rfl (by decide) ?_
        refine lg_nil ?_
        have hd := hd.setf f10 (by omega) st12
        have hs := (show bs2 ≤ w12.heap.size by omega)
        have hs2 := (show w10.heap.size ≤ w12.heap.size by omega)
        have u := u.trans (l12.mono (by omega))
        exact fun a ha => (show t < ((dirI (2 * i) ((trAs Ls).length : Int)).length + 1) ∧ _ from ⟨(by omega), ha.keep (fk rfl (fk rfl (fk rfl fn))), hd, (g12.cast (clr_step (by omega))), hs, hs2, (by omega), u⟩)
      · refine lsw (want_none (by rfl)) (yb (decide_eq_false c11) (yi_lss rfl rfl rfl)) rfl (by decide) ?_
        refine lg_nil ?_
        refine nx (E' := [(6, _), (7, _), (8, _), (31, _), (32, _), (33, _), (34, _)]) (fk rfl (fk rfl (fk rfl (fk rfl (fk rfl (fk rfl (fk rfl fn))))))) ?_
        refine cg_cf rfl ?_
        refine cg_exit ?_
        refine eg_seq_exit ?_
        refine eg_seq_exit ?_
        refine eg_block_exit ?_
        refine nx (E' := [(6, _)]) (fk rfl fn) ?_
        refine cg_seq ?_
        refine cg_region ?_
        refine lsw (want_none (by rfl)) (y_move rfl rfl) rfl (by decide) ?_
        refine lsw (want_none (by rfl)) (y_assign rfl rfl) rfl (by decide) ?_
        refine lsw (want_none (by rfl)) (y_assign rfl rfl) rfl (by decide) ?_
        refine lg_nil ?_
        refine nx (E' := [(4, _), (5, _)]) (fk rfl (fk rfl fn)) ?_
        refine cg_ret ?_
        have et : t = (dirI (2 * i) ((trAs Ls).length : Int)).length := by omega
        exact eg_ret_tmp2 rfl rfl rfl ⟨_, rfl, _, congrArg (fun q => Value.tuple #[r4.v, nv q]) ok.symm, (ho.rowS (by omega)).cast (by rw [et, List.take_length]; exact (clearL_ok ok).symm), u⟩
end Go.Proofs.YtpoonjgkgaodmaaDoor
