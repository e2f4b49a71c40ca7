/-
  A tree without some leaves: the document.
-/
import Derived.Test.YtkcpmpbjjnknhaaGreatDoorHsDrop
namespace Go.Proofs.YtkcpmpbjjnknhaaGreatDoor
open Go.ChangeShapes Go.WideShapes Go.ChangeAt Go.RowKit
set_option linter.unusedVariables false

set_option maxRecDepth 20000
/-- The first k are dropped. -/
def drK (l : List Int) (k : Nat) (a : List Nd) : List Nd := a.mapIdx fun i n => if i < k then cutN l (zapN l i n) else n
theorem dr_len (l : List Int) (k : Nat) (a : List Nd) : (drK l k a).length = a.length := List.length_mapIdx
theorem dr_get {l : List Int} {k i : Nat} {a : List Nd} (h : i < a.length) : atN (drK l k a) i = if i < k then cutN l (zapN l i (atN a i)) else atN a i := atN_mapIdx h
theorem dr_at {l : List Int} {k : Nat} {a : List Nd} (h : k < a.length) : atN (drK l k a) k = atN a k := by
  rw [dr_get h, if_neg (Nat.lt_irrefl k)]
theorem dr_none (l : List Int) (a : List Nd) : drK l 0 a = a := list_atN (dr_len _ _ _) fun i hi => by
  rw [dr_len] at hi
  rw [dr_get hi, if_neg (by omega)]
theorem dr_all (l : List Int) (a : List Nd) : drK l a.length a = dropL l a := list_atN (by rw [dr_len, dropL_len]) fun i hi => by
  rw [dr_len] at hi
  rw [dr_get hi, if_pos hi, drop_at hi]
theorem dr_snoc {l : List Int} {k : Nat} {a : List Nd} {n : Nd} (h : k < a.length) (e : n = cutN l (zapN l k (atN a k))) : (drK l k a).set k n = drK l (k + 1) a := by
  refine list_atN (by rw [List.length_set, dr_len, dr_len]) fun j hj => ?_
  rw [List.length_set, dr_len] at hj
  rw [atN_set (by rw [dr_len]; exact h), dr_get hj, dr_get hj]
  by_cases q : j = k
  · subst q
    rw [if_pos rfl, if_pos (by omega), e]
  · rw [if_neg q]
    by_cases z : j < k
    · rw [if_pos z, if_pos (by omega)]
    · rw [if_neg z, if_neg (by omega)]
theorem dr_same {l : List Int} {k : Nat} {a : List Nd} (h : k < a.length) (e : cutN l (zapN l k (atN a k)) = atN a k) : drK l k a = drK l (k + 1) a := by
  rw [← dr_snoc h e.symm]
  refine list_atN (by rw [List.length_set]) fun j hj => ?_
  rw [dr_len] at hj
  rw [atN_set (by rw [dr_len]; exact h)]
  split
  · rename_i q
    subst q
    exact dr_at h
  · rfl
theorem rdropE_any {W : World} {B : Nat} {s r : SlV} {Ls : List Nd} {xs : List Int} (h : RwNd W B s Ls) (hn : SlN W B r xs) (hB : B ≤ W.heap.size) (hl : xs.length ≤ 900000) (h0 : (trAs Ls).length = 0) : Calls Tryz.prog 18 #[s.v, r.v] W fun e W' => ∃ v, e = .returned v ∧ ∃ r : SlV, v = r.v ∧ RwNd W' W'.heap.size r (dropL xs (trAs Ls)) ∧ Below W.heap.size W W' := by
  have h := h.more hB
  have hn := hn.more hB
  refine calls_cg (n := 53) Tryz.func18 rfl Tryz.ntmps18 (by simp) ?_
  show CG _ _ _ [(0, s.v), (1, r.v)] _ _
  have u := Below.refl W.heap.size W
  have q1 := h.len
  have q2 := h.cap
  have q3 := hn.len
  have q4 := hn.cap
  have htl := trAs_le Ls
  refine cg_seq ?_
  refine cg_region ?_
  refine zA rfl rfl rfl rfl rfl ?_
  refine lg_nil ?_
  refine nx (zk3 0 1 4 rfl rfl rfl fn) ?_
  refine cg_seq ?_
  refine cg_region ?_
  obtain ⟨bs2, hbs2⟩ : ∃ q, q = W.heap.size := ⟨_, rfl⟩
  refine lg_bs0R (want_none (by rfl)) rfl rfl (by decide) fun v1 w1 g1 l1 => ?_
  rw [← hbs2] at g1
  have z1 := l1.size
  refine zM rfl rfl rfl rfl rfl ?_
  have h := h.below (l1.mono (by omega))
  refine lg_callw (want_none (by rfl)) (as_any h (by omega)) (by kernel_rfl) rfl rfl rfl (by decide) ?_
  rintro _ w3 ⟨s3, rfl, m3, hw3⟩
  have zw3 := hw3.size
  have tl3 := trAs_le Ls
  have g1 := g1.keep hw3 (by omega)
  refine lg_appR g1 (m3.src.more (B' := bs2) (by omega)) (Nat.le_refl _) (by first | omega | (simp only [List.length_nil]; omega)) (by omega) (want_none (by rfl)) rfl rfl rfl rfl rfl (by decide) fun r4 w4 g4 m4 l4 z4 => ?_
  rw [List.nil_append] at g4
  clear m4
  refine zA rfl rfl rfl rfl rfl ?_
  refine lg_nil ?_
  refine nx (zk3 1 4 5 rfl rfl rfl fn) ?_
  refine cg_seq ?_
  refine cg_seq ?_
  refine cg_region ?_
  refine zA rfl rfl rfl rfl rfl ?_
  refine lg_nil ?_
  refine nx (zk3 1 4 5 rfl rfl rfl (zk1 6 rfl fn)) ?_
  refine cg_block ?_
  obtain ⟨C, hC⟩ : ∃ q, q = w4.heap.size := ⟨_, rfl⟩
  have hn := hn.below (l1.mono (by omega))
  have hn := hn.below (hw3.mono (by omega))
  have hn := hn.below (l4.mono (by omega))
  have u := u.trans (l1.mono u.size)
  have u := u.trans (hw3.mono u.size)
  have u := u.trans (l4.mono (by omega))
  refine cg_loopE (fun t a v => Holds 53 [(1, r.v), (5, r4.v), (6, nv ((t : Nat) : Int))] a ∧ SlN v W.heap.size r xs ∧ Below W.heap.size W v ∧ C ≤ v.heap.size ∧ t ≤ (trAs Ls).length ∧ RwNd v C r4 (trAs Ls)) ((trAs Ls).length + 1) (fun a ha => ⟨ha.keep (fk rfl (fk rfl (fk rfl fn))), hn, u, (by omega), (Nat.zero_le _), ((g4.rowS (by omega)).more (by omega))⟩) ?_
  rintro t a v ht ⟨ha, hn, u, cC, tle, go⟩
  refine cg_at ha ?_
  clear ha a
  have zv := u.size
  have q3 := hn.len
  have q4 := hn.cap
  have qg := go.len
  refine cg_seq ?_
  refine cg_seq ?_
  refine cg_region ?_
  refine zM rfl rfl rfl rfl rfl ?_
  refine zM rfl rfl rfl rfl rfl ?_
  refine za rfl (y_lenM (el := 40) go.len (by kernel_rfl) rfl rfl) rfl rfl ?_
  refine za rfl (yb (decide_eq_false (show ¬ (((t : Nat) : Int) < ((trAs Ls).length : Int)) from (by omega))) (yi_lss rfl rfl rfl)) rfl rfl ?_
  refine lg_nil ?_
  refine nx (zk3 1 5 6 rfl rfl rfl (zk1 15 rfl fn)) ?_
  refine cg_cf rfl ?_
  refine cg_exit ?_
  refine eg_seq_exit ?_
  refine eg_seq_exit ?_
  refine eg_block_exit ?_
  refine nx (zk1 5 rfl fn) ?_
  refine cg_seq ?_
  refine cg_region ?_
  refine zM rfl rfl rfl rfl rfl ?_
  refine zA rfl rfl rfl rfl rfl ?_
  refine lg_nil ?_
  refine nx (zk1 4 rfl fn) ?_
  refine cg_ret ?_
  exact eg_ret_tmp rfl rfl ⟨_, rfl, _, rfl, (go.more (by omega)).cast (by rw [List.eq_nil_of_length_eq_zero h0]; rfl), u⟩
theorem rdropO_any {W : World} {B : Nat} {s r : SlV} {Ls : List Nd} {xs : List Int} (h : RwNd W B s Ls) (hn : SlN W B r xs) (hB : B ≤ W.heap.size) (hl : xs.length ≤ 900000) (hpos : 0 < (trAs Ls).length) : Calls Tryz.prog 18 #[s.v, r.v] W fun e W' => ∃ v, e = .returned v ∧ ∃ r : SlV, v = r.v ∧ RwNd W' W'.heap.size r (dropL xs (trAs Ls)) ∧ Below W.heap.size W W' := by
  have h := h.more hB
  have hn := hn.more hB
  refine calls_cg (n := 53) Tryz.func18 rfl Tryz.ntmps18 (by simp) ?_
  show CG _ _ _ [(0, s.v), (1, r.v)] _ _
  have u := Below.refl W.heap.size W
  have q1 := h.len
  have q2 := h.cap
  have q3 := hn.len
  have q4 := hn.cap
  have htl := trAs_le Ls
  refine cg_seq ?_
  refine cg_region ?_
  refine zA rfl rfl rfl rfl rfl ?_
  refine lg_nil ?_
  refine nx (zk3 0 1 4 rfl rfl rfl fn) ?_
  refine cg_seq ?_
  refine cg_region ?_
  obtain ⟨bs2, hbs2⟩ : ∃ q, q = W.heap.size := ⟨_, rfl⟩
  refine lg_bs0R (want_none (by rfl)) rfl rfl (by decide) fun v1 w1 g1 l1 => ?_
  rw [← hbs2] at g1
  have z1 := l1.size
  refine zM rfl rfl rfl rfl rfl ?_
  have h := h.below (l1.mono (by omega))
  refine lg_callw (want_none (by rfl)) (as_any h (by omega)) (by kernel_rfl) rfl rfl rfl (by decide) ?_
  rintro _ w3 ⟨s3, rfl, m3, hw3⟩
  have zw3 := hw3.size
  have tl3 := trAs_le Ls
  have g1 := g1.keep hw3 (by omega)
  refine lg_appR g1 (m3.src.more (B' := bs2) (by omega)) (Nat.le_refl _) (by first | omega | (simp only [List.length_nil]; omega)) (by omega) (want_none (by rfl)) rfl rfl rfl rfl rfl (by decide) fun r4 w4 g4 m4 l4 z4 => ?_
  rw [List.nil_append] at g4
  clear m4
  refine zA rfl rfl rfl rfl rfl ?_
  refine lg_nil ?_
  refine nx (zk3 1 4 5 rfl rfl rfl fn) ?_
  refine cg_seq ?_
  refine cg_seq ?_
  refine cg_region ?_
  refine zA rfl rfl rfl rfl rfl ?_
  refine lg_nil ?_
  refine nx (zk3 1 4 5 rfl rfl rfl (zk1 6 rfl fn)) ?_
  refine cg_block ?_
  obtain ⟨C, hC⟩ : ∃ q, q = w4.heap.size := ⟨_, rfl⟩
  obtain ⟨ga, gb, gn⟩ := OwnNa.of g4 (Nat.le_refl _) (by omega) hpos
  have hn := hn.below (l1.mono (by omega))
  have hn := hn.below (hw3.mono (by omega))
  have hn := hn.below (l4.mono (by omega))
  have u := u.trans (l1.mono u.size)
  have u := u.trans (hw3.mono u.size)
  have u := u.trans (l4.mono (by omega))
  refine cg_loopE (fun t a v => Holds 53 [(1, r.v), (5, r4.v), (6, nv ((t : Nat) : Int))] a ∧ SlN v W.heap.size r xs ∧ Below W.heap.size W v ∧ C ≤ v.heap.size ∧ t ≤ (trAs Ls).length ∧ OwnNa v ga v.heap.size r4 (drK xs t (trAs Ls)) ∧ ga < v.heap.size) ((trAs Ls).length + 1) (fun a ha => ⟨ha.keep (fk rfl (fk rfl (fk rfl fn))), hn, u, (by omega), (Nat.zero_le _), (gn.cast (dr_none xs _).symm), gn.lt⟩) ?_
  rintro t a v ht ⟨ha, hn, u, cC, tle, go, gC⟩
  refine cg_at ha ?_
  clear ha a
  have zv := u.size
  have q3 := hn.len
  have q4 := hn.cap
  have rl := dr_len xs t (trAs Ls)
  have qg := go.len
  refine cg_seq ?_
  refine cg_seq ?_
  refine cg_region ?_
  refine zM rfl rfl rfl rfl rfl ?_
  refine zM rfl rfl rfl rfl rfl ?_
  refine za rfl (yv (congrArg nv (by rw [dr_len])) (y_lenM (el := 40) go.row.len (by kernel_rfl) rfl rfl)) rfl rfl ?_
  by_cases c5 : ((t : Nat) : Int) < ((trAs Ls).length : Int)
  · refine za rfl (yb (decide_eq_true c5) (yi_lss rfl rfl rfl)) rfl rfl ?_
    refine lg_nil ?_
    refine nx (zk3 1 5 6 rfl rfl rfl (zk1 15 rfl fn)) ?_
    refine cg_ct rfl ?_
    refine cg_skip ?_
    refine nx (zk3 1 5 6 rfl rfl rfl fn) ?_
    refine cg_seq ?_
    refine cg_block ?_
    refine cg_seq ?_
    refine cg_seq ?_
    refine cg_region ?_
    refine zM rfl rfl rfl rfl rfl ?_
    refine za rfl (yi_rem rfl rfl rfl (by omega) (by omega)) rfl rfl ?_
    by_cases c6 : (((t : Nat) : Int) % 2) = 0
    · refine za rfl (yb (decide_eq_true c6) (yi_eql rfl rfl rfl)) rfl rfl ?_
      refine zM rfl rfl rfl rfl rfl ?_
      refine zt 21 rfl (by kernel_rfl) rfl (y_move rfl rfl) rfl rfl ?_
      refine zt 21 rfl (by kernel_rfl) rfl (y_move rfl rfl) rfl rfl ?_
      refine zt 21 rfl (by kernel_rfl) rfl (yi_quo rfl rfl rfl (by omega) (by omega) (by omega)) rfl rfl ?_
      by_cases c7 : (((t : Nat) : Int) / 2) ∈ xs
      · have hg : goneAt xs t := ⟨by omega, by rw [show (((t / 2 : Nat)) : Int) = ((t : Nat) : Int) / 2 by omega]; exact c7⟩
        refine zt 21 rfl (by kernel_rfl) rfl (yb (decide_eq_true c7) (y_call (has_any hn (((t : Nat) : Int) / 2)) (by kernel_rfl) rfl rfl)) rfl rfl ?_
        refine za rfl (y_pick true rfl rfl rfl) rfl rfl ?_
        refine lg_nil ?_
        refine nx (zk3 1 5 6 rfl rfl rfl (zk1 26 rfl fn)) ?_
        refine cg_ct rfl ?_
        refine cg_region ?_
        refine zM rfl rfl rfl rfl rfl ?_
        refine zM rfl rfl rfl rfl rfl ?_
        refine za rfl (y_build (cs := NdV.zero.cs Nd.zero) rfl rfl (by kernel_rfl)) rfl rfl ?_
        refine za rfl (y_ixR (s := r4) (el := 40) (k := 8) (i := t) (iI := ((t : Nat) : Int)) go.1 (by kernel_rfl) (by kernel_rfl) (by omega) (by have q1 := go.len; first | omega | (simp only [List.length_append, List.length_cons, List.length_nil, List.length_take, List.length_drop, List.length_set, List.length_replicate, clr_len] at q1; omega)) rfl rfl rfl) rfl rfl ?_
        refine lg_stA (i := t) go ((IsNd.zero _ 0).more (B' := v.heap.size) (by omega)) (OffNd.zero _) (by first | omega | (simp only [List.length_append, List.length_cons, List.length_nil, List.length_take, List.length_drop, List.length_set, List.length_replicate, clr_len]; omega)) (want_none (by rfl)) rfl rfl rfl rfl fun w8 new8 st8 g8 => ?_
        have z8 := st8.size
        refine lg_nil ?_
        refine nx (zk3 1 5 6 rfl rfl rfl fn) ?_
        refine cg_seq ?_
        have hat := dr_at (l := xs) (a := trAs Ls) (k := t) (by omega)
        refine cg_region ?_
        refine zM rfl rfl rfl rfl rfl ?_
        refine zM rfl rfl rfl rfl rfl ?_
        refine za rfl (y_ixR (s := r4) (el := 40) (k := 8) (i := t) (iI := ((t : Nat) : Int)) g8.1 (by kernel_rfl) (by kernel_rfl) (by omega) (by have q1 := g8.len; first | omega | (simp only [List.length_append, List.length_cons, List.length_nil, List.length_take, List.length_drop, List.length_set, List.length_replicate, clr_len] at q1; omega)) rfl rfl rfl) rfl rfl ?_
        refine za rfl (y_fld (off := 0) (by kernel_rfl) rfl rfl) rfl rfl ?_
        obtain ⟨el9, eh9, ef9, ec9⟩ := g8.at (i := t) (by first | omega | (simp only [List.length_set]; omega))
        refine za rfl (y_celld (ec9 0 _ rfl) (by kernel_rfl) rfl rfl) rfl rfl ?_
        refine za rfl (yb (decide_eq_false (show ¬ ((atN ((drK xs t (trAs Ls)).set t Nd.zero) t).kind = 2) from (by rw [atN_set (by omega), if_pos rfl]; decide))) (yi_eql rfl rfl rfl)) rfl rfl ?_
        refine lg_nil ?_
        refine nx (zk3 1 5 6 rfl rfl rfl (zk1 36 rfl fn)) ?_
        refine cg_cf rfl ?_
        refine cg_skip ?_
        refine eg_block_norm ?_
        refine nx (zk3 1 5 6 rfl rfl rfl fn) ?_
        refine cg_region ?_
        refine zM rfl rfl rfl rfl rfl ?_
        refine za rfl (yv (congrArg nv (show ((t : Nat) : Int) + 1 = ((t + 1 : Nat) : Int) by omega)) (yi_add rfl rfl rfl (by omega) (by omega))) rfl rfl ?_
        refine zA rfl rfl rfl rfl rfl ?_
        refine lg_nil ?_
        have hn := hn.below (st8.below _ (by omega))
        have u := u.trans (st8.below _ (by omega))
        exact fun a ha => (show t < ((trAs Ls).length + 1) ∧ _ from ⟨(by omega), ha.keep (fk rfl (fk rfl (fk rfl fn))), hn, u, (by omega), (by omega), (g8.up.cast (dr_snoc (by omega) (by rw [zapN, if_pos hg]; rfl))), g8.lt⟩)
      · have hg : ¬ goneAt xs t := fun q => c7 (by rw [show ((t : Nat) : Int) / 2 = (((t / 2 : Nat)) : Int) by omega]; exact q.2)
        refine zt 21 rfl (by kernel_rfl) rfl (yb (decide_eq_false c7) (y_call (has_any hn (((t : Nat) : Int) / 2)) (by kernel_rfl) rfl rfl)) rfl rfl ?_
        refine za rfl (y_pick true rfl rfl rfl) rfl rfl ?_
        refine lg_nil ?_
        refine nx (zk3 1 5 6 rfl rfl rfl (zk1 26 rfl fn)) ?_
        refine cg_cf rfl ?_
        refine cg_skip ?_
        refine nx (zk3 1 5 6 rfl rfl rfl fn) ?_
        refine cg_seq ?_
        have hat := dr_at (l := xs) (a := trAs Ls) (k := t) (by omega)
        refine cg_region ?_
        refine zM rfl rfl rfl rfl rfl ?_
        refine zM rfl rfl rfl rfl rfl ?_
        refine za rfl (y_ixR (s := r4) (el := 40) (k := 8) (i := t) (iI := ((t : Nat) : Int)) go.1 (by kernel_rfl) (by kernel_rfl) (by omega) (by have q1 := go.len; first | omega | (simp only [List.length_append, List.length_cons, List.length_nil, List.length_take, List.length_drop, List.length_set, List.length_replicate, clr_len] at q1; omega)) rfl rfl rfl) rfl rfl ?_
        refine za rfl (y_fld (off := 0) (by kernel_rfl) rfl rfl) rfl rfl ?_
        obtain ⟨el10, eh10, ef10, ec10⟩ := go.at (i := t) (by first | omega | (simp only [List.length_append, List.length_cons, List.length_nil, List.length_take, List.length_drop, List.length_set, List.length_replicate, clr_len]; omega))
        refine za rfl (y_celld (ec10 0 _ rfl) (by kernel_rfl) rfl rfl) rfl rfl ?_
        by_cases c11 : (atN (drK xs t (trAs Ls)) t).kind = 2
        · refine za rfl (yb (decide_eq_true c11) (yi_eql rfl rfl rfl)) rfl rfl ?_
          refine lg_nil ?_
          refine nx (zk3 1 5 6 rfl rfl rfl (zk1 36 rfl fn)) ?_
          refine cg_ct rfl ?_
          refine cg_seq ?_
          refine cg_region ?_
          refine zM rfl rfl rfl rfl rfl ?_
          refine zM rfl rfl rfl rfl rfl ?_
          refine za rfl (y_ixR (s := r4) (el := 40) (k := 8) (i := t) (iI := ((t : Nat) : Int)) go.1 (by kernel_rfl) (by kernel_rfl) (by omega) (by have q1 := go.len; first | omega | (simp only [List.length_append, List.length_cons, List.length_nil, List.length_take, List.length_drop, List.length_set, List.length_replicate, clr_len] at q1; omega)) rfl rfl rfl) rfl rfl ?_
          obtain ⟨el12, eh12, ef12, ec12⟩ := go.at (i := t) (by first | omega | (simp only [List.length_append, List.length_cons, List.length_nil, List.length_take, List.length_drop, List.length_set, List.length_replicate, clr_len]; omega))
          refine za rfl (y_loadC (cs := el12.cs (atN (drK xs t (trAs Ls)) t)) ec12 (by kernel_rfl) (by kernel_rfl) rfl rfl) rfl rfl ?_
          refine lg_allocw (cs := NdV.zero.cs Nd.zero) (want_none (by rfl)) rfl (by kernel_rfl) rfl (by decide) fun b13 w13 n13 => ?_
          have r13 := n13.row
          have k13 := n13.blk
          have z13 := n13.size
          have lt13 : b13 < w13.heap.size := by omega
          have o14 := r13
          refine lg_stw (want_none (by rfl)) r13 rfl rfl rfl (by kernel_rfl) (by kernel_rfl) rfl rfl fun w14 s14 => ?_
          have r13 := s14.row
          have z14 := s14.size
          refine lg_nil ?_
          refine nx (zk3 1 5 6 rfl rfl rfl (zk1 7 rfl fn)) ?_
          refine cg_seq ?_
          have hun := (unm_small (trAs_is Ls) t).2
          rw [← hat] at hun
          refine cg_region ?_
          refine za rfl (y_fld (off := 5) (by kernel_rfl) rfl rfl) rfl rfl ?_
          refine za rfl (y_fld (off := 2) (by kernel_rfl) rfl rfl) rfl rfl ?_
          refine za rfl (y_cellv (v := el12.inner.unm.v) r13 rfl (by kernel_rfl) rfl rfl) rfl rfl ?_
          refine zM rfl rfl rfl rfl rfl ?_
          have eh12 := eh12.below (n13.below.mono (by omega))
          have eh12 := eh12.below (s14.below _ (by omega))
          have hn := hn.below (n13.below.mono (by omega))
          have hn := hn.below (s14.below _ (by omega))
          refine lg_callw (want_none (by rfl)) (rcutF_any (eh12.inner.unm.more (B' := w14.heap.size) (by omega)) (hn.more (B' := w14.heap.size) (by omega)) (Nat.le_refl _) (Nat.le_refl _) (by first | omega | (simp only [List.length_append, List.length_cons, List.length_nil, numOct_length, flagOct_length]; omega)) (by first | omega | (simp only [List.length_append, List.length_cons, List.length_nil, numOct_length, flagOct_length]; omega))) (by kernel_rfl) rfl rfl rfl (by decide) ?_
          rintro _ w15 ⟨r15, rfl, m15, f15, hw15⟩
          have zw15 := hw15.size
          refine za rfl (y_fld (off := 5) (by kernel_rfl) rfl rfl) rfl rfl ?_
          refine za rfl (y_fld (off := 2) (by kernel_rfl) rfl rfl) rfl rfl ?_
          have r13 := RowAt.below hw15 r13.lt r13
          have o16 := r13
          refine lg_st1 (new := #[nv ((atN (drK xs t (trAs Ls)) t).kind), el12.leaf.enc.v, el12.leaf.cred.v, nv ((atN (drK xs t (trAs Ls)) t).leaf.src), el12.leaf.par.v, el12.inner.enc.v, el12.inner.hash.v, r15.v]) (want_none (by rfl)) r13 rfl rfl rfl (by kernel_rfl) rfl (show 7 < 8 by decide) rfl rfl fun w16 s16 => ?_
          have r13 := s16.row
          have z16 := s16.size
          refine lg_nil ?_
          refine nx (zk3 1 5 6 rfl rfl rfl (zk1 7 rfl fn)) ?_
          refine cg_region ?_
          refine zM rfl rfl rfl rfl rfl ?_
          refine zM rfl rfl rfl rfl rfl ?_
          refine za rfl (y_loadA r13 (by kernel_rfl) (by kernel_rfl) rfl rfl) rfl rfl ?_
          have go := go.below n13.below
          have go := go.set1 s14 (by omega) (by omega)
          have go := go.below hw15
          have go := go.set1 s16 (by omega) (by omega)
          refine za rfl (y_ixR (s := r4) (el := 40) (k := 8) (i := t) (iI := ((t : Nat) : Int)) go.1 (by kernel_rfl) (by kernel_rfl) (by omega) (by have q1 := go.len; first | omega | (simp only [List.length_append, List.length_cons, List.length_nil, List.length_take, List.length_drop, List.length_set, List.length_replicate, clr_len] at q1; omega)) rfl rfl rfl) rfl rfl ?_
          have eh12 := eh12.below (hw15.mono (by omega))
          have eh12 := eh12.below (s16.below _ (by omega))
          have m15 := m15.setf f15 (by omega) s16
          refine lg_stA (i := t) go (show IsNd w16 w16.heap.size (⟨el12.leaf, (⟨el12.inner.enc, el12.inner.hash, r15⟩ : PnV)⟩ : NdV) (⟨(atN (drK xs t (trAs Ls)) t).kind, (atN (drK xs t (trAs Ls)) t).leaf, (⟨(atN (drK xs t (trAs Ls)) t).inner.enc, (atN (drK xs t (trAs Ls)) t).inner.hash, (cutK ((atN (drK xs t (trAs Ls)) t).inner.unm) xs)⟩ : Pn)⟩ : Nd) from ⟨(eh12.leaf.more (B' := w16.heap.size) (by omega)), (show IsPn w16 w16.heap.size (⟨el12.inner.enc, el12.inner.hash, r15⟩ : PnV) (⟨(atN (drK xs t (trAs Ls)) t).inner.enc, (atN (drK xs t (trAs Ls)) t).inner.hash, (cutK ((atN (drK xs t (trAs Ls)) t).inner.unm) xs)⟩ : Pn) from ⟨(eh12.inner.enc.more (B' := w16.heap.size) (by omega)), (eh12.inner.hash.more (B' := w16.heap.size) (by omega)), (m15.more (B' := w16.heap.size) (by omega))⟩)⟩) (⟨ef12.enc, ef12.cred, ef12.par, ef12.ienc, ef12.hash, OffS.fr f15 (by omega)⟩) (by first | omega | (simp only [List.length_append, List.length_cons, List.length_nil, List.length_take, List.length_drop, List.length_set, List.length_replicate, clr_len]; omega)) (want_none (by rfl)) rfl rfl rfl rfl fun w17 new17 st17 g17 => ?_
          have z17 := st17.size
          refine lg_nil ?_
          refine eg_block_norm ?_
          refine nx (zk3 1 5 6 rfl rfl rfl fn) ?_
          refine cg_region ?_
          refine zM rfl rfl rfl rfl rfl ?_
          refine za rfl (yv (congrArg nv (show ((t : Nat) : Int) + 1 = ((t + 1 : Nat) : Int) by omega)) (yi_add rfl rfl rfl (by omega) (by omega))) rfl rfl ?_
          refine zA rfl rfl rfl rfl rfl ?_
          refine lg_nil ?_
          have hn := hn.below (hw15.mono (by omega))
          have hn := hn.below (s16.below _ (by omega))
          have hn := hn.below (st17.below _ (by omega))
          have u := u.trans (n13.below.mono u.size)
          have u := u.trans (s14.below _ (by omega))
          have u := u.trans (hw15.mono u.size)
          have u := u.trans (s16.below _ (by omega))
          have u := u.trans (st17.below _ (by omega))
          exact fun a ha => (show t < ((trAs Ls).length + 1) ∧ _ from ⟨(by omega), ha.keep (fk rfl (fk rfl (fk rfl fn))), hn, u, (by omega), (by omega), (g17.up.cast (dr_snoc (by omega) (by rw [hat, zapN, if_neg hg]; rfl))), g17.lt⟩)
        · refine za rfl (yb (decide_eq_false c11) (yi_eql rfl rfl rfl)) rfl rfl ?_
          refine lg_nil ?_
          refine nx (zk3 1 5 6 rfl rfl rfl (zk1 36 rfl fn)) ?_
          refine cg_cf rfl ?_
          refine cg_skip ?_
          refine eg_block_norm ?_
          refine nx (zk3 1 5 6 rfl rfl rfl fn) ?_
          refine cg_region ?_
          refine zM rfl rfl rfl rfl rfl ?_
          refine za rfl (yv (congrArg nv (show ((t : Nat) : Int) + 1 = ((t + 1 : Nat) : Int) by omega)) (yi_add rfl rfl rfl (by omega) (by omega))) rfl rfl ?_
          refine zA rfl rfl rfl rfl rfl ?_
          refine lg_nil ?_
          exact fun a ha => (show t < ((trAs Ls).length + 1) ∧ _ from ⟨(by omega), ha.keep (fk rfl (fk rfl (fk rfl fn))), hn, u, (by omega), (by omega), (go.up.cast (dr_same (by omega) (by rw [zapN, if_neg hg]; exact cutN_kind (trIs_ok (trAs_is Ls) t).1 (by rw [← hat]; exact c11)))), go.lt⟩)
    · have hg : ¬ goneAt xs t := fun q => c6 (by have := q.1; omega)
      refine za rfl (yb (decide_eq_false c6) (yi_eql rfl rfl rfl)) rfl rfl ?_
      refine zM rfl rfl rfl rfl rfl ?_
      refine zf 21 rfl (by kernel_rfl) rfl rfl rfl ?_
      refine zf 21 rfl (by kernel_rfl) rfl rfl rfl ?_
      refine zf 21 rfl (by kernel_rfl) rfl rfl rfl ?_
      refine zf 21 rfl (by kernel_rfl) rfl rfl rfl ?_
      refine za rfl (y_pick false rfl rfl rfl) rfl rfl ?_
      refine lg_nil ?_
      refine nx (zk3 1 5 6 rfl rfl rfl (zk1 26 rfl fn)) ?_
      refine cg_cf rfl ?_
      refine cg_skip ?_
      refine nx (zk3 1 5 6 rfl rfl rfl fn) ?_
      refine cg_seq ?_
      have hat := dr_at (l := xs) (a := trAs Ls) (k := t) (by omega)
      refine cg_region ?_
      refine zM rfl rfl rfl rfl rfl ?_
      refine zM rfl rfl rfl rfl rfl ?_
      refine za rfl (y_ixR (s := r4) (el := 40) (k := 8) (i := t) (iI := ((t : Nat) : Int)) go.1 (by kernel_rfl) (by kernel_rfl) (by omega) (by have q1 := go.len; first | omega | (simp only [List.length_append, List.length_cons, List.length_nil, List.length_take, List.length_drop, List.length_set, List.length_replicate, clr_len] at q1; omega)) rfl rfl rfl) rfl rfl ?_
      refine za rfl (y_fld (off := 0) (by kernel_rfl) rfl rfl) rfl rfl ?_
      obtain ⟨el18, eh18, ef18, ec18⟩ := go.at (i := t) (by first | omega | (simp only [List.length_append, List.length_cons, List.length_nil, List.length_take, List.length_drop, List.length_set, List.length_replicate, clr_len]; omega))
      refine za rfl (y_celld (ec18 0 _ rfl) (by kernel_rfl) rfl rfl) rfl rfl ?_
      by_cases c19 : (atN (drK xs t (trAs Ls)) t).kind = 2
      · refine za rfl (yb (decide_eq_true c19) (yi_eql rfl rfl rfl)) rfl rfl ?_
        refine lg_nil ?_
        refine nx (zk3 1 5 6 rfl rfl rfl (zk1 36 rfl fn)) ?_
        refine cg_ct rfl ?_
        refine cg_seq ?_
        refine cg_region ?_
        refine zM rfl rfl rfl rfl rfl ?_
        refine zM rfl rfl rfl rfl rfl ?_
        refine za rfl (y_ixR (s := r4) (el := 40) (k := 8) (i := t) (iI := ((t : Nat) : Int)) go.1 (by kernel_rfl) (by kernel_rfl) (by omega) (by have q1 := go.len; first | omega | (simp only [List.length_append, List.length_cons, List.length_nil, List.length_take, List.length_drop, List.length_set, List.length_replicate, clr_len] at q1; omega)) rfl rfl rfl) rfl rfl ?_
        obtain ⟨el20, eh20, ef20, ec20⟩ := go.at (i := t) (by first | omega | (simp only [List.length_append, List.length_cons, List.length_nil, List.length_take, List.length_drop, List.length_set, List.length_replicate, clr_len]; omega))
        refine za rfl (y_loadC (cs := el20.cs (atN (drK xs t (trAs Ls)) t)) ec20 (by kernel_rfl) (by kernel_rfl) rfl rfl) rfl rfl ?_
        refine lg_allocw (cs := NdV.zero.cs Nd.zero) (want_none (by rfl)) rfl (by kernel_rfl) rfl (by decide) fun b21 w21 n21 => ?_
        have r21 := n21.row
        have k21 := n21.blk
        have z21 := n21.size
        have lt21 : b21 < w21.heap.size := by omega
        have o22 := r21
        refine lg_stw (want_none (by rfl)) r21 rfl rfl rfl (by kernel_rfl) (by kernel_rfl) rfl rfl fun w22 s22 => ?_
        have r21 := s22.row
        have z22 := s22.size
        refine lg_nil ?_
        refine nx (zk3 1 5 6 rfl rfl rfl (zk1 7 rfl fn)) ?_
        refine cg_seq ?_
        have hun := (unm_small (trAs_is Ls) t).2
        rw [← hat] at hun
        refine cg_region ?_
        refine za rfl (y_fld (off := 5) (by kernel_rfl) rfl rfl) rfl rfl ?_
        refine za rfl (y_fld (off := 2) (by kernel_rfl) rfl rfl) rfl rfl ?_
        refine za rfl (y_cellv (v := el20.inner.unm.v) r21 rfl (by kernel_rfl) rfl rfl) rfl rfl ?_
        refine zM rfl rfl rfl rfl rfl ?_
        have eh20 := eh20.below (n21.below.mono (by omega))
        have eh20 := eh20.below (s22.below _ (by omega))
        have hn := hn.below (n21.below.mono (by omega))
        have hn := hn.below (s22.below _ (by omega))
        refine lg_callw (want_none (by rfl)) (rcutF_any (eh20.inner.unm.more (B' := w22.heap.size) (by omega)) (hn.more (B' := w22.heap.size) (by omega)) (Nat.le_refl _) (Nat.le_refl _) (by first | omega | (simp only [List.length_append, List.length_cons, List.length_nil, numOct_length, flagOct_length]; omega)) (by first | omega | (simp only [List.length_append, List.length_cons, List.length_nil, numOct_length, flagOct_length]; omega))) (by kernel_rfl) rfl rfl rfl (by decide) ?_
        rintro _ w23 ⟨r23, rfl, m23, f23, hw23⟩
        have zw23 := hw23.size
        refine za rfl (y_fld (off := 5) (by kernel_rfl) rfl rfl) rfl rfl ?_
        refine za rfl (y_fld (off := 2) (by kernel_rfl) rfl rfl) rfl rfl ?_
        have r21 := RowAt.below hw23 r21.lt r21
        have o24 := r21
        refine lg_st1 (new := #[nv ((atN (drK xs t (trAs Ls)) t).kind), el20.leaf.enc.v, el20.leaf.cred.v, nv ((atN (drK xs t (trAs Ls)) t).leaf.src), el20.leaf.par.v, el20.inner.enc.v, el20.inner.hash.v, r23.v]) (want_none (by rfl)) r21 rfl rfl rfl (by kernel_rfl) rfl (show 7 < 8 by decide) rfl rfl fun w24 s24 => ?_
        have r21 := s24.row
        have z24 := s24.size
        refine lg_nil ?_
        refine nx (zk3 1 5 6 rfl rfl rfl (zk1 7 rfl fn)) ?_
        refine cg_region ?_
        refine zM rfl rfl rfl rfl rfl ?_
        refine zM rfl rfl rfl rfl rfl ?_
        refine za rfl (y_loadA r21 (by kernel_rfl) (by kernel_rfl) rfl rfl) rfl rfl ?_
        have go := go.below n21.below
        have go := go.set1 s22 (by omega) (by omega)
        have go := go.below hw23
        have go := go.set1 s24 (by omega) (by omega)
        refine za rfl (y_ixR (s := r4) (el := 40) (k := 8) (i := t) (iI := ((t : Nat) : Int)) go.1 (by kernel_rfl) (by kernel_rfl) (by omega) (by have q1 := go.len; first | omega | (simp only [List.length_append, List.length_cons, List.length_nil, List.length_take, List.length_drop, List.length_set, List.length_replicate, clr_len] at q1; omega)) rfl rfl rfl) rfl rfl ?_
        have eh20 := eh20.below (hw23.mono (by omega))
        have eh20 := eh20.below (s24.below _ (by omega))
        have m23 := m23.setf f23 (by omega) s24
        refine lg_stA (i := t) go (show IsNd w24 w24.heap.size (⟨el20.leaf, (⟨el20.inner.enc, el20.inner.hash, r23⟩ : PnV)⟩ : NdV) (⟨(atN (drK xs t (trAs Ls)) t).kind, (atN (drK xs t (trAs Ls)) t).leaf, (⟨(atN (drK xs t (trAs Ls)) t).inner.enc, (atN (drK xs t (trAs Ls)) t).inner.hash, (cutK ((atN (drK xs t (trAs Ls)) t).inner.unm) xs)⟩ : Pn)⟩ : Nd) from ⟨(eh20.leaf.more (B' := w24.heap.size) (by omega)), (show IsPn w24 w24.heap.size (⟨el20.inner.enc, el20.inner.hash, r23⟩ : PnV) (⟨(atN (drK xs t (trAs Ls)) t).inner.enc, (atN (drK xs t (trAs Ls)) t).inner.hash, (cutK ((atN (drK xs t (trAs Ls)) t).inner.unm) xs)⟩ : Pn) from ⟨(eh20.inner.enc.more (B' := w24.heap.size) (by omega)), (eh20.inner.hash.more (B' := w24.heap.size) (by omega)), (m23.more (B' := w24.heap.size) (by omega))⟩)⟩) (⟨ef20.enc, ef20.cred, ef20.par, ef20.ienc, ef20.hash, OffS.fr f23 (by omega)⟩) (by first | omega | (simp only [List.length_append, List.length_cons, List.length_nil, List.length_take, List.length_drop, List.length_set, List.length_replicate, clr_len]; omega)) (want_none (by rfl)) rfl rfl rfl rfl fun w25 new25 st25 g25 => ?_
        have z25 := st25.size
        refine lg_nil ?_
        refine eg_block_norm ?_
        refine nx (zk3 1 5 6 rfl rfl rfl fn) ?_
        refine cg_region ?_
        refine zM rfl rfl rfl rfl rfl ?_
        refine za rfl (yv (congrArg nv (show ((t : Nat) : Int) + 1 = ((t + 1 : Nat) : Int) by omega)) (yi_add rfl rfl rfl (by omega) (by omega))) rfl rfl ?_
        refine zA rfl rfl rfl rfl rfl ?_
        refine lg_nil ?_
        have hn := hn.below (hw23.mono (by omega))
        have hn := hn.below (s24.below _ (by omega))
        have hn := hn.below (st25.below _ (by omega))
        have u := u.trans (n21.below.mono u.size)
        have u := u.trans (s22.below _ (by omega))
        have u := u.trans (hw23.mono u.size)
        have u := u.trans (s24.below _ (by omega))
        have u := u.trans (st25.below _ (by omega))
        exact fun a ha => (show t < ((trAs Ls).length + 1) ∧ _ from ⟨(by omega), ha.keep (fk rfl (fk rfl (fk rfl fn))), hn, u, (by omega), (by omega), (g25.up.cast (dr_snoc (by omega) (by rw [hat, zapN, if_neg hg]; rfl))), g25.lt⟩)
      · refine za rfl (yb (decide_eq_false c19) (yi_eql rfl rfl rfl)) rfl rfl ?_
        refine lg_nil ?_
        refine nx (zk3 1 5 6 rfl rfl rfl (zk1 36 rfl fn)) ?_
        refine cg_cf rfl ?_
        refine cg_skip ?_
        refine eg_block_norm ?_
        refine nx (zk3 1 5 6 rfl rfl rfl fn) ?_
        refine cg_region ?_
        refine zM rfl rfl rfl rfl rfl ?_
        refine za rfl (yv (congrArg nv (show ((t : Nat) : Int) + 1 = ((t + 1 : Nat) : Int) by omega)) (yi_add rfl rfl rfl (by omega) (by omega))) rfl rfl ?_
        refine zA rfl rfl rfl rfl rfl ?_
        refine lg_nil ?_
        exact fun a ha => (show t < ((trAs Ls).length + 1) ∧ _ from ⟨(by omega), ha.keep (fk rfl (fk rfl (fk rfl fn))), hn, u, (by omega), (by omega), (go.up.cast (dr_same (by omega) (by rw [zapN, if_neg hg]; exact cutN_kind (trIs_ok (trAs_is Ls) t).1 (by rw [← hat]; exact c19)))), go.lt⟩)
  · refine za rfl (yb (decide_eq_false c5) (yi_lss rfl rfl rfl)) rfl rfl ?_
    refine lg_nil ?_
    refine nx (zk3 1 5 6 rfl rfl rfl (zk1 15 rfl fn)) ?_
    refine cg_cf rfl ?_
    refine cg_exit ?_
    refine eg_seq_exit ?_
    refine eg_seq_exit ?_
    refine eg_block_exit ?_
    refine nx (zk1 5 rfl fn) ?_
    refine cg_seq ?_
    refine cg_region ?_
    refine zM rfl rfl rfl rfl rfl ?_
    refine zA rfl rfl rfl rfl rfl ?_
    refine lg_nil ?_
    refine nx (zk1 4 rfl fn) ?_
    refine cg_ret ?_
    obtain rfl : t = (trAs Ls).length := by omega
    exact eg_ret_tmp rfl rfl ⟨_, rfl, _, rfl, go.row.cast (dr_all xs _), u⟩
theorem rdrop_any {W : World} {B : Nat} {s r : SlV} {Ls : List Nd} {xs : List Int} (h : RwNd W B s Ls) (hn : SlN W B r xs) (hB : B ≤ W.heap.size) (hl : xs.length ≤ 900000) : Calls Tryz.prog 18 #[s.v, r.v] W fun e W' => ∃ v, e = .returned v ∧ ∃ r : SlV, v = r.v ∧ RwNd W' W'.heap.size r (dropL xs (trAs Ls)) ∧ Below W.heap.size W W' := by
  by_cases hpos : 0 < (trAs Ls).length
  · exact rdropO_any h hn hB hl hpos
  · exact rdropE_any h hn hB hl (by omega)
theorem rwithout_any {W : World} {B : Nat} {s r : SlV} {Ls : List Nd} {xs : List Int} (h : RwNd W B s Ls) (x : Int) (hn : SlN W B r xs) (hB : B ≤ W.heap.size) (hl : xs.length ≤ 900000) (rg : Tb W) : Calls Tryz.prog 20 #[s.v, nv x, r.v] W fun e W' => ∃ v, e = .returned v ∧ ∃ r : SlV, v = r.v ∧ Sl W' W'.heap.size r (ofH (dropL xs (trAs Ls)) x) ∧ Below W.heap.size W W' := by
  have h := h.more hB
  have hn := hn.more hB
  refine calls_cg (n := 12) Tryz.func20 rfl Tryz.ntmps20 (by simp) ?_
  show CG _ _ _ [(0, s.v), (1, nv x), (2, r.v)] _ _
  have u := Below.refl W.heap.size W
  refine cg_seq ?_
  refine cg_region ?_
  refine zA rfl rfl rfl rfl rfl ?_
  refine lg_nil ?_
  refine nx (zk3 0 1 2 rfl rfl rfl (zk1 6 rfl fn)) ?_
  refine cg_seq ?_
  refine cg_region ?_
  refine zM rfl rfl rfl rfl rfl ?_
  refine zM rfl rfl rfl rfl rfl ?_
  refine lg_callw (want_none (by rfl)) (rdrop_any (h.more (B' := W.heap.size) (by omega)) (hn.more (B' := W.heap.size) (by omega)) (Nat.le_refl _) (by first | omega | (simp only [List.length_append, List.length_cons, List.length_nil, numOct_length, flagOct_length]; omega))) (by kernel_rfl) rfl rfl rfl (by decide) ?_
  rintro _ w1 ⟨s1, rfl, m1, hw1⟩
  have zw1 := hw1.size
  refine zM rfl rfl rfl rfl rfl ?_
  have u := u.trans (hw1.mono u.size)
  refine lg_callw (want_none (by rfl)) (rof_any (m1.more (B' := w1.heap.size) (by omega)) x (Nat.le_refl _) (rg.up u)) (by kernel_rfl) rfl rfl rfl (by decide) ?_
  rintro _ w2 ⟨r2, rfl, m2, hw2⟩
  have zw2 := hw2.size
  have ol2 := ofH_len (trAs (dropL xs (trAs Ls))) x
  refine zA rfl rfl rfl rfl rfl ?_
  refine lg_nil ?_
  refine nx (zk1 6 rfl fn) ?_
  refine cg_ret ?_
  have u := u.trans (hw2.mono u.size)
  exact eg_ret_tmp rfl rfl ⟨_, rfl, _, rfl, (by have z := m2; rwa [trAs_ok (drop_is (trAs_is Ls) xs)] at z), u⟩
end Go.Proofs.YtkcpmpbjjnknhaaGreatDoor
