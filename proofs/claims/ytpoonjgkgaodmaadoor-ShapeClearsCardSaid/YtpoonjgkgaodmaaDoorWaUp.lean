/-
  Ways up, as functions that are ranged over.
-/
import Derived.Test.YtpoonjgkgaodmaaDoorWkNX
import Derived.Test.YtpoonjgkgaodmaaDoorWaFacts
import Derived.Test.YtpoonjgkgaodmaaDoorIxProg
namespace Go.Proofs.YtpoonjgkgaodmaaDoor
open Go.ChangeShapes Go.WideShapes Go.ChangeAt Go.RowKit
set_option linter.unusedVariables false
set_option maxRecDepth 20000
/-- A node, its parent, and so on. -/
def wayI (x w : Int) : List Int := if isN x w then x :: dirI x w else []
theorem way_no {x w : Int} (h : ¬ isN x w) : wayI x w = [] := if_neg h
theorem way_yes {x w : Int} (h : isN x w) : wayI x w = x :: wayI (parI x w) w := by
  have hd := dir_step h
  have hp := par_up h
  unfold wayI
  rw [if_pos h]
  by_cases q : parI x w < 0
  · rw [if_pos q] at hd
    rw [hd, if_neg (fun t : isN (parI x w) w => by have := t.2.1; omega)]
  · rw [if_neg q] at hd
    rw [hd, if_pos (hp.2 q).1]
theorem way_len (x w : Int) : (wayI x w).length ≤ 7 := by
  by_cases h : isN x w
  · exact fin2 (p := fun x w => (wayI x w).length ≤ 7) (by kernel_rfl) h
  · rw [way_no h]
    exact Nat.zero_le _
theorem Tb.up {w w' : World} (u : Below w.heap.size w w') (h : Tb w) : Tb w' := by
  obtain ⟨tg, r⟩ := h
  exact ⟨tg, RowAt.below u r.lt r⟩
theorem Tb.lt {w : World} (h : Tb w) : 1 < w.heap.size := by
  obtain ⟨tg, r⟩ := h
  exact r.lt
theorem Tb.from {B : Nat} {w w' : World} (u : Below B w w') (hg : 1 < B) (h : Tb w) : Tb w' := by
  obtain ⟨tg, r⟩ := h
  exact ⟨tg, RowAt.below u hg r⟩
/-- What a round keeps that the way reads behind it. -/
def UpKeeps (bw : Nat) (w : Int) (W W' : World) : Prop := (RowAt W bw 3 #[nv w] → RowAt W' bw 3 #[nv w]) ∧ (Tb W → Tb W')
theorem upk_t {bw : Nat} {w : Int} {A B C : World} (h : UpKeeps bw w A B) (k : UpKeeps bw w B C) : UpKeeps bw w A C := ⟨fun r => k.1 (h.1 r), fun r => k.2 (h.2 r)⟩
theorem upk_r {bw : Nat} {w : Int} (W : World) : UpKeeps bw w W W := ⟨id, id⟩
theorem upk_b {bw : Nat} {w : Int} {w0 : World} (W : World) (l : Nat) (o o' : Obj) (_ : w0.heap.size ≤ l) (h : W.heap[l]? = some o) (hc : o.isCells = false) (_ : o.isWalk = false) : UpKeeps bw w W (W.putObj l o') := by
  have hn : ∀ r, some l = some r → ∃ o : Obj, W.heap[r]? = some o ∧ o.isCells = false := fun r e => by cases e; exact ⟨_, h, hc⟩
  exact ⟨fun r => row_nc r (put_grown _ _ _) hn, fun ⟨tg, r⟩ => ⟨tg, row_nc r (put_grown _ _ _) hn⟩⟩
theorem up_any (x w : Int) (W : World) : Calls Tryd.prog 45 #[nv x, nv w] W fun e W' => ∃ v, e = .returned v ∧ ∃ bx bw, v = .func (.func 60) #[] #[pv bx 0, pv bw 0] ∧ RowAt W' bx 3 #[nv x] ∧ RowAt W' bw 3 #[nv w] ∧ W.heap.size ≤ bx ∧ W.heap.size ≤ bw ∧ Below W.heap.size W W' := by
  refine calls_cg (n := 6) Tryd.func45 rfl Tryd.ntmps45 (by simp) ?_
  show CG _ _ _ [(0, nv x), (1, nv w)] _ _
  have u := Below.refl W.heap.size W
  refine cg_seq ?_
  refine cg_region ?_
  refine lg_boxs rfl (want_none (by rfl)) rfl rfl rfl (by decide) fun b1 w1 n1 => ?_
  have r1 := n1.row
  have k1 := n1.blk
  have z1 := n1.size
  have lt1 : b1 < w1.heap.size := by omega
  refine lg_boxs rfl (want_none (by rfl)) rfl rfl rfl (by decide) fun b2 w2 n2 => ?_
  have r2 := n2.row
  have k2 := n2.blk
  have z2 := n2.size
  have lt2 : b2 < w2.heap.size := by omega
  refine lsw (want_none (by rfl)) (y_assign rfl rfl) rfl (by decide) ?_
  refine lg_nil ?_
  refine nx (E' := [(2, _), (3, _), (4, _)]) (fk rfl (fk rfl (fk rfl fn))) ?_
  refine cg_seq ?_
  refine cg_region ?_
  refine lsw (want_none (by rfl)) (y_mkf (xs := []) (ys := [.tmp 2, .tmp 3]) rfl rfl rfl) rfl (by decide) ?_
  refine lsw (want_none (by rfl)) (y_assign rfl rfl) rfl (by decide) ?_
  refine lg_nil ?_
  refine nx (E' := [(4, _)]) (fk rfl fn) ?_
  refine cg_ret ?_
  have r1 := n2.keep r1
  have u := u.trans (n1.below.mono u.size)
  have u := u.trans (n2.below.mono u.size)
  exact eg_ret_tmp rfl rfl ⟨_, rfl, b1, b2, rfl, r1, r2, by omega, by omega, u⟩
theorem up_stops (x w : Int) (bx bw : Nat) (W0 : World) (hx : RowAt W0 bx 3 #[nv x]) (hw : RowAt W0 bw 3 #[nv w]) (rg0 : Tb W0) :
    SeqStopsK Fence.wide 2 Tryd.prog 60 #[pv bx 0, pv bw 0] (fun k : Int => #[nv k]) (UpKeeps bw w) (fun xs => xs = wayI x w) (fun pre => pre <+: wayI x w) 8 W0 := by
  intro l J Jx W hW hJa hJx hY h0
  refine callsIn_wide.2 ?_
  have hx1 := RowAt.below hW hx.lt hx
  have hw1 := RowAt.below hW hw.lt hw
  have rg1 := rg0.up hW
  show Calls _ _ ([.func (.yield l) #[] #[], pv bx 0, pv bw 0] : List Value).toArray W _
  refine calls_cx (n := 16) Tryd.func60 rfl Tryd.ntmps60 (by simp) (fun _ q => by simp at q) ?_
  show CX none [] _ _ _ [(0, .func (.yield l) #[] #[]), (1, pv bx 0), (2, pv bw 0)] _ _
  have u := Below.refl W.heap.size W
  refine cx_seq ?_
  refine cx_region ?_
  refine lsw (want_none (by rfl)) (y_cellv hx1 rfl (by kernel_rfl) rfl rfl) rfl (by decide) ?_
  refine lsw (want_none (by rfl)) (y_assign rfl rfl) rfl (by decide) ?_
  refine lg_nil ?_
  refine nxx (E' := [(0, _), (2, _), (4, _)]) (fk rfl (fk rfl (fk rfl fn))) ?_
  refine cx_block ?_
  refine cx_loopE (fun t a v => ∃ (pre : List Int) (k : Int), Holds 16 [(0, .func (.yield l) #[] #[]), (2, pv bw 0), (4, nv k)] a ∧ wayI x w = pre ++ wayI k w ∧ pre.length = t ∧ J pre v ∧ Tb v ∧ RowAt v bw 3 #[nv w]) 8 (fun a ha => ⟨[], x, ha.keep (fk rfl (fk rfl (fk rfl fn))), rfl, rfl, h0, rg1, hw1⟩) ?_
  rintro t a v ht ⟨pre, k, ha, hp, hl, hJ, rg1, hw1⟩
  refine cx_at ha ?_
  clear ha a
  have l_hw1 := hw1.lt
  refine cx_seq ?_
  refine cx_seq ?_
  refine cx_region ?_
  refine lsw (want_none (by rfl)) (y_move rfl rfl) rfl (by decide) ?_
  refine lsw (want_none (by rfl)) (y_cellv hw1 rfl (by kernel_rfl) rfl rfl) rfl (by decide) ?_
  by_cases c1 : isN k w
  · refine lsw (want_none (by rfl)) (yb (decide_eq_true c1) (y_call (is_any k w _ rg1) (by kernel_rfl) rfl rfl)) rfl (by decide) ?_
    refine lg_nil ?_
    refine nxx (E' := [(0, _), (2, _), (4, _), (6, _), (7, _), (8, _)]) (fk rfl (fk rfl (fk rfl (fk rfl (fk rfl (fk rfl fn)))))) ?_
    refine cx_ct rfl ?_
    refine cx_skip ?_
    refine nxx (E' := [(0, _), (2, _), (4, _), (6, _), (7, _), (8, _)]) (fk rfl (fk rfl (fk rfl (fk rfl (fk rfl (fk rfl fn)))))) ?_
    refine cx_seq ?_
    refine cx_block ?_
    refine cx_seq ?_
    refine cx_regionx ?_
    refine lxw (want_none (by rfl)) (y_move rfl rfl) rfl (by decide) ?_
    refine lxw (want_none (by rfl)) (y_move rfl rfl) rfl (by decide) ?_
    refine lx_yields (want_none (by rfl)) (hY pre k v hJ (by have := congrArg List.length hp; simp [way_yes c1] at this; have := way_len x w; omega)) rfl rfl rfl rfl (by decide) ?_ ?_
    · rintro w2 ⟨hJ, j2⟩
      have hw1 := j2.1 hw1
      have rg1 := j2.2 rg1
      refine lxw (want_none (by rfl)) (y_bnot rfl rfl) rfl (by decide) ?_
      refine lx_nil ?_
      refine nxx (E' := [(0, _), (2, _), (4, _), (6, _), (7, _), (8, _), (12, _), (13, _), (14, _), (15, _)]) (fk rfl (fk rfl (fk rfl (fk rfl (fk rfl (fk rfl (fk rfl (fk rfl (fk rfl (fk rfl fn)))))))))) ?_
      refine cx_cf rfl ?_
      refine cx_skip ?_
      refine xg_block_norm ?_
      refine nxx (E' := [(0, _), (2, _), (4, _), (6, _), (7, _), (8, _), (12, _), (13, _), (14, _), (15, _)]) (fk rfl (fk rfl (fk rfl (fk rfl (fk rfl (fk rfl (fk rfl (fk rfl (fk rfl (fk rfl fn)))))))))) ?_
      refine cx_region ?_
      refine lsw (want_none (by rfl)) (y_move rfl rfl) rfl (by decide) ?_
      refine lsw (want_none (by rfl)) (y_cellv hw1 rfl (by kernel_rfl) rfl rfl) rfl (by decide) ?_
      refine lsw (want_none (by rfl)) (y_call (parent_any k w _ rg1) (by kernel_rfl) rfl rfl) rfl (by decide) ?_
      refine lsw (want_none (by rfl)) (y_assign rfl rfl) rfl (by decide) ?_
      refine lg_nil ?_
      have ln := way_len x w
      have hp' : wayI x w = (pre ++ [k]) ++ wayI (parI k w) w := by rw [hp, way_yes c1, List.append_assoc]; rfl
      have hq := congrArg List.length hp'
      simp at hq
      exact fun a ha => (show t < 8 ∧ _ from ⟨(by omega), a, rfl, (pre ++ [k]), (parI k w), ha.keep (fk rfl (fk rfl (fk rfl fn))), hp', (by simp; omega), hJ, rg1, hw1⟩)
    · rintro w2 hJ
      refine lxw (want_none (by rfl)) (y_bnot rfl rfl) rfl (by decide) ?_
      refine lx_nil ?_
      refine nxx (E' := [(0, _), (2, _), (4, _), (6, _), (7, _), (8, _), (12, _), (13, _), (14, _), (15, _)]) (fk rfl (fk rfl (fk rfl (fk rfl (fk rfl (fk rfl (fk rfl (fk rfl (fk rfl (fk rfl fn)))))))))) ?_
      refine cx_ct rfl ?_
      refine cx_ret ?_
      refine xg_block_ret ?_
      refine xg_seq_ret ?_
      refine xg_seq_ret ?_
      refine xg_block_ret ?_
      exact xg_ret [] trivial (res_none rfl) ⟨⟨_, rfl⟩, .inr ⟨pre ++ [k], ⟨wayI (parI k w) w, by rw [hp, way_yes c1, List.append_assoc]; rfl⟩, hJ⟩⟩
  · refine lsw (want_none (by rfl)) (yb (decide_eq_false c1) (y_call (is_any k w _ rg1) (by kernel_rfl) rfl rfl)) rfl (by decide) ?_
    refine lg_nil ?_
    refine nxx (E' := [(0, _), (2, _), (4, _), (6, _), (7, _), (8, _)]) (fk rfl (fk rfl (fk rfl (fk rfl (fk rfl (fk rfl fn)))))) ?_
    refine cx_cf rfl ?_
    refine cx_exit ?_
    refine xg_seq_exit ?_
    refine xg_seq_exit ?_
    refine xg_block_exit ?_
    exact xg_end [] trivial (res_none rfl) ⟨⟨_, rfl⟩, .inl ⟨pre, by rw [hp, way_no c1, List.append_nil], hJ⟩⟩
end Go.Proofs.YtpoonjgkgaodmaaDoor
