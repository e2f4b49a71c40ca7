/-
  The document's Write.
-/
import Derived.Test.YtkcpmpbjjnknhaaGreatDoorShProg
import Derived.Test.YtkcpmpbjjnknhaaGreatDoorKitV
namespace Go.Proofs.YtkcpmpbjjnknhaaGreatDoor
open Go.ChangeShapes Go.WideShapes Go.ChangeAt Go.RowKit
set_option linter.unusedVariables false
set_option maxRecDepth 20000
theorem blk_drop (xs : List Int) (t i : Nat) : (xs.drop (64 * t)).getD i 0 = xs.getD (64 * t + i) 0 := by
  simp only [List.getD, List.getElem?_drop]
theorem Oct.cellv {w : World} {B b off m t i : Nat} {xs : List Int} (h : Oct w B (some ⟨b, off, none⟩) m (xs.drop (64 * t))) (hi : i < m) : w.cell? ⟨b, off + i, none⟩ = some (ov (blkS xs t i)) := by
  obtain ⟨b1, o1, e, _, hc⟩ := h.2.2 (by omega)
  injection e with e
  injection e with e1 e2
  subst e1 e2
  have hl : i < (xs.drop (64 * t)).length := by rw [h.1]; exact hi
  rw [hc i _ (List.getElem?_eq_getElem hl)]
  have h1 : (xs.drop (64 * t)).getD i 0 = (xs.drop (64 * t))[i] := by simp [List.getD, List.getElem?_eq_getElem hl]
  unfold blkS
  rw [← blk_drop, h1, ov, vb_toB (h.2.1 _ (List.getElem_mem hl))]
def bF (xs : List Int) (t : Nat) : Nat → Nat → BitVec 8
  | 0 => fun _ => 0
  | i + 1 => upd (bF xs t i) i (blkS xs t i)
theorem bF_eq (xs : List Int) (t : Nat) : ∀ i, i < 64 → bF xs t 64 i = blkS xs t i := by
  have key : ∀ k i, bF xs t k i = if i < k then blkS xs t i else 0 := by
    intro k
    induction k with
    | zero => intro i; simp [bF]
    | succ k ih =>
      intro i
      simp only [bF, upd, ih]
      by_cases e : i = k
      · subst e; simp
      · by_cases l : i < k
        · simp [e, l, show i < k + 1 by omega]
        · simp [e, l, show ¬ i < k + 1 by omega]
  intro i hi
  rw [key, if_pos hi]
theorem y_lenown {E : Env} {o : Oper} {w : World} {x : Operand} {base k : Nat} {u : Value} {l : List Value} (h : w.ownsRow base 5 1 u k l) (ho : o.op = .call { callee := .builtin .len, args := #[x], argTypes := #[26] }) (hx : val E x = some u) : Yields Tryz.prog E o w (iv k) := by
  rcases h.2 with ⟨rfl, e⟩ | ⟨g, cap, cur, rfl, _⟩
  · have hk : k = 0 := by
      have := h.1
      simp_all
    subst hk
    exact y_len (el := 5) (by kernel_rfl) ho hx
  · exact y_len (el := 5) (by kernel_rfl) ho hx
theorem own_lit {w : World} {base b k : Nat} {cs : Array Value} {xs : List Int} (r : RowAt w b 5 cs) (hb : base ≤ b) (hk : k = xs.length) (hc : cs.toList = xs.map (Value.int .u8)) (hl : k ≤ maxLen) : w.ownsRow base 5 1 (.slice (some ⟨b, 0, none⟩) k k) xs.length (xs.map (Value.int .u8)) := by
  subst hk
  have hs : cs.size = xs.length := by rw [← Array.length_toList, hc, List.length_map]
  refine ⟨by simp, .inr ⟨b, xs.length, cs, rfl, hb, r, Nat.le_refl _, hl, by omega, ?_⟩⟩
  rw [hc]
  simp only [Nat.mul_one]
  first
  | exact List.take_of_length_le (by rw [List.length_map]; exact Nat.le_refl _)
  | exact (List.take_of_length_le (by rw [List.length_map]; exact Nat.le_refl _)).symm
theorem own_nil (w : World) : w.ownsRow w.heap.size 5 1 (.slice none 0 0) ([] : List Int).length (([] : List Int).map (Value.int .u8)) := ⟨rfl, .inl ⟨rfl, rfl⟩⟩
theorem and255 (x : BitVec 32) : (x &&& 255#32).setWidth 8 = x.setWidth 8 := by
  apply BitVec.eq_of_toNat_eq
  rw [BitVec.toNat_setWidth, BitVec.toNat_setWidth, BitVec.toNat_and]
  show (x.toNat &&& 255) % 2 ^ 8 = _
  rw [show (255 : Nat) = 2 ^ 8 - 1 from rfl, Nat.and_two_pow_sub_one_eq_mod, Nat.mod_mod]
theorem cS_w (h : Nat → BitVec 32) (s : Value) (k : Int) {j : Nat} (hj : j < 8) : (cS h s k)[j]? = some (wv (h j)) := by
  match j, hj with
  | 0, _ | 1, _ | 2, _ | 3, _ | 4, _ | 5, _ | 6, _ | 7, _ => rfl
theorem y_tou {E : Env} {o : Oper} {w : World} {x : Operand} {m : Int} (h0 : 0 ≤ m) (h1 : m < 9223372036854775808) (ho : o.op = .convert 3 136 x) (hx : val E x = some (nv m)) : Yields Tryz.prog E o w (.int .u64 m) := by
  have h := y_conv_u (w := w) (P := Tryz.prog) (t := 3) (t' := 136) (k := .u64) (ds := .int .i64) (by kernel_rfl) (by kernel_rfl) ho hx
  have e : IntKind.u64.wrap m = m := by
    unfold IntKind.wrap
    simp [IntKind.bits, IntKind.signed]
    omega
  rw [e] at h
  exact h
theorem rwrite_any (s : S) (A A2 : Option Addr) (m c m2 c2 : Nat) (ys : List Int) (w : World) (o1 : Oct w w.heap.size A m s.b) (o2 : Oct w w.heap.size A2 m2 ys) (hm2 : m2 ≤ 100000) : Calls Tryz.prog 104 #[.agg (cS s.h (.slice A m c) s.n), .slice A2 m2 c2] w fun e w' => ∃ v, e = .returned v ∧ StR w (s.wr ys) v w' := by
  refine calls_cg (n := 55) Tryz.func104 rfl Tryz.ntmps104 (by simp) ?_
  show CG _ _ _ [(0, .agg (cS s.h (.slice A m c) s.n)), (1, .slice A2 m2 c2)] _ _
  have u := Below.refl w.heap.size w
  have hl1 := o1.1
  have hl2 := o2.1
  have hb := s.as_b
  have hn := s.as_n
  refine cg_seq ?_
  refine cg_region ?_
  refine lg_boxw (want_none (by rfl)) rfl rfl (hsR _ _ _) rfl (by decide) fun b1 w1 n1 => ?_
  have r1 := n1.row
  have k1 := n1.blk
  have z1 := n1.size
  refine lg_allocw (want_none (by rfl)) rfl hzR rfl (by decide) fun b2 w2 n2 => ?_
  have r2 := n2.row
  have k2 := n2.blk
  have z2 := n2.size
  refine lg_nil ?_
  refine nx (zk3 1 2 4 rfl rfl rfl fn) ?_
  refine cg_seq ?_
  refine cg_region ?_
  have r1 := n2.keep r1
  refine za rfl (y_part r1 (m := 10) (cS_all _ _ _) (by show _ ≤ 10; omega) (by kernel_rfl) (by kernel_rfl) rfl rfl) rfl rfl ?_
  have o1 := o1.below (n1.below.mono (by omega))
  have o1 := o1.below (n2.below.mono (by omega))
  refine lg_callw (want_none (by rfl)) (ras_any s _ _ _ _ (o1.more (by omega))) (by kernel_rfl) rfl rfl rfl (by decide) ?_
  rintro _ w3 ⟨A3, m3, c3, rfl, o3, hw3⟩
  have zw3 := hw3.size
  refine lg_allocw (want_none (by rfl)) rfl hzR rfl (by decide) fun b4 w4 n4 => ?_
  have r4 := n4.row
  have k4 := n4.blk
  have z4 := n4.size
  have qw5 := r4
  refine lg_stw (want_none (by rfl)) r4 rfl rfl rfl (hsR _ _ _) (cS_one _ _ _ _ _) rfl rfl fun w5 sw5 => ?_
  have r4 := sw5.row
  have zw5 := sw5.size
  refine lg_nil ?_
  refine nx (zk3 1 4 5 rfl rfl rfl fn) ?_
  refine cg_seq ?_
  refine cg_seq ?_
  refine cg_region ?_
  refine za rfl (y_fld (off := 9) (by kernel_rfl) rfl rfl) rfl rfl ?_
  refine za rfl (y_cellv r4 (cS_9 _ _ _) (by kernel_rfl) rfl rfl) rfl rfl ?_
  refine zM rfl rfl rfl rfl rfl ?_
  refine za rfl (y_len (el := 5) (by kernel_rfl) rfl rfl) rfl rfl ?_
  refine za rfl (yi_add rfl rfl rfl (by omega) (by omega)) rfl rfl ?_
  refine za rfl (yi_gtr rfl rfl rfl) rfl rfl ?_
  refine lg_nil ?_
  refine nx (zk3 1 4 5 rfl rfl rfl (zk1 16 rfl fn)) ?_
  refine cg_if rfl (fun hc16 => ?_) (fun hc16 => ?_)
  · have ew : s.wr ys = S.new := if_pos (by omega)
    refine cg_seq ?_
    refine cg_region ?_
    refine lg_callw (want_none (by rfl)) (rnew_any _) (by kernel_rfl) rfl rfl rfl (by decide) ?_
    rintro _ w6 ⟨A6, m6, c6, rfl, o6, hw6⟩
    have zw6 := hw6.size
    have r2 := RowAt.below hw3 r2.lt r2
    have r2 := n4.keep r2
    have r2 := sw5.keep r2 (by omega)
    have r2 := RowAt.below hw6 r2.lt r2
    have qw7 := r2
    refine lg_stw (want_none (by rfl)) r2 rfl rfl rfl (hsR _ _ _) (cS_one _ _ _ _ _) rfl rfl fun w7 sw7 => ?_
    have r2 := sw7.row
    have zw7 := sw7.size
    refine lg_nil ?_
    refine nx (zk3 1 4 5 rfl rfl rfl fn) ?_
    refine cg_ret ?_
    refine eg_seq_ret ?_
    have u := u.trans (n1.below.mono u.size)
    have u := u.trans (n2.below.mono u.size)
    have u := u.trans (hw3.mono u.size)
    have u := u.trans (n4.below.mono u.size)
    have u := u.trans (sw5.below _ (by omega))
    have u := u.trans (hw6.mono u.size)
    have u := u.trans (sw7.below _ (by omega))
    have o6 := o6.set qw7 cS_no sw7
    exact eg_ret_agg rfl rfl r2 (by kernel_rfl) (hsR _ _ _) ⟨_, rfl, (by rw [ew]; exact ⟨_, _, _, (by first | rfl | rw [hl2]), o6.more (by omega), u⟩)⟩
  · have ew : s.wr ys = ⟨hOf s.as.h (s.as.b ++ ys), rest (s.as.b ++ ys), s.as.n + ys.length⟩ := if_neg (by omega)
    refine cg_skip ?_
    refine nx (zk3 1 4 5 rfl rfl rfl fn) ?_
    refine cg_seq ?_
    refine cg_region ?_
    refine lg_bs0 (want_none (by rfl)) rfl rfl (by decide) fun u8 w8 p8 hw8 => ?_
    have zw8 := hw8.size
    refine za rfl (y_fld (off := 8) (by kernel_rfl) rfl rfl) rfl rfl ?_
    have r4 := RowAt.below hw8 r4.lt r4
    refine za rfl (y_cellv r4 (cS_8 _ _ _) (by kernel_rfl) rfl rfl) rfl rfl ?_
    have o3 := o3.below (n4.below.mono (by omega))
    have o3 := o3.set qw5 cS_no sw5
    have o3 := o3.below (hw8.mono (by omega))
    refine lg_append p8 o3 (by have ho := o3.1; simp only [List.length_nil]; omega) (by omega) (want_none (by rfl)) rfl rfl rfl rfl rfl (by decide) fun u9 w9 p8 hw9 => ?_
    have zw9 := hw9.size
    refine zA rfl rfl rfl rfl rfl ?_
    refine lg_nil ?_
    refine nx (zk3 1 4 5 rfl rfl rfl (zk1 6 rfl fn)) ?_
    refine cg_seq ?_
    refine cg_region ?_
    refine zM rfl rfl rfl rfl rfl ?_
    refine zM rfl rfl rfl rfl rfl ?_
    have o2 := o2.below (n1.below.mono (by omega))
    have o2 := o2.below (n2.below.mono (by omega))
    have o2 := o2.below (hw3.mono (by omega))
    have o2 := o2.below (n4.below.mono (by omega))
    have o2 := o2.set qw5 cS_no sw5
    have o2 := o2.below (hw8.mono (by omega))
    have o2 := o2.below (hw9.mono (by omega))
    refine lg_append p8 o2 (by have ho := o2.1; simp only [List.nil_append]; omega) (by omega) (want_none (by rfl)) rfl rfl rfl rfl rfl (by decide) fun u10 w10 p8 hw10 => ?_
    have zw10 := hw10.size
    refine zA rfl rfl rfl rfl rfl ?_
    refine lg_nil ?_
    refine nx (zk3 1 4 5 rfl rfl rfl (zk1 6 rfl fn)) ?_
    refine cg_seq ?_
    refine cg_block ?_
    have u := u.trans (n1.below.mono u.size)
    have u := u.trans (n2.below.mono u.size)
    have u := u.trans (hw3.mono u.size)
    have u := u.trans (n4.below.mono u.size)
    have u := u.trans (sw5.below _ (by omega))
    have u := u.trans (hw8.mono u.size)
    have u := u.trans (hw9.mono (by omega))
    have u := u.trans (hw10.mono (by omega))
    have r2 := RowAt.below hw3 r2.lt r2
    have r2 := n4.keep r2
    have r2 := sw5.keep r2 (by omega)
    have r2 := RowAt.below hw8 r2.lt r2
    have r2 := RowAt.below hw9 (by omega) r2
    have r2 := RowAt.below hw10 (by omega) r2
    have r4 := RowAt.below hw9 (by omega) r4
    have r4 := RowAt.below hw10 (by omega) r4
    have o3 := o3.below (hw9.mono (by omega))
    have o3 := o3.below (hw10.mono (by omega))
    have o2 := o2.below (hw10.mono (by omega))
    have ry : ∀ y ∈ ([] ++ s.as.b) ++ ys, 0 ≤ y ∧ y ≤ 255 := by
      intro y hy
      rcases List.mem_append.1 hy with h | h
      · exact o3.2.1 y h
      · exact o2.2.1 y h
    obtain ⟨A9, c9, rfl, hc9, _, o9⟩ := own_sl p8 ry
    have hall : (s.as.b ++ ys).length = s.as.b.length + m2 := by rw [List.length_append, hl2]
    refine cg_loopE (fun t a v => ∃ (Aq : Option Addr) (mq : Nat) (cq : Nat), Holds 55 [(1, .slice A2 m2 c2), (4, pv b2 0), (5, pv b4 0), (6, .slice Aq mq cq)] a ∧ RowAt v b2 119 (cS (fun _ => 0) (.slice none 0 0) 0) ∧ RowAt v b4 119 (cS (fold s.as.h (s.as.b ++ ys) t) (.slice A3 m3 c3) s.as.n) ∧ Oct v w10.heap.size Aq mq ((s.as.b ++ ys).drop (64 * t)) ∧ w10.heap.size ≤ v.heap.size ∧ mq ≤ cq ∧ 64 * t + mq = (s.as.b ++ ys).length ∧ Below w.heap.size w v) ((s.as.b ++ ys).length / 64) (fun a ha => ⟨_, _, _, ha.keep (fk rfl (fk rfl (fk rfl (fk rfl fn)))), r2, r4, o9, Nat.le_refl _, hc9, by simp, u⟩) ?_
    rintro t a v ht ⟨Aq, mq, cq, ha, r4, r5, o3, hbx, hc3, hs, u⟩
    refine cg_at ha ?_
    clear ha a
    have zv := u.size
    refine cg_seq ?_
    refine cg_seq ?_
    refine cg_region ?_
    refine zM rfl rfl rfl rfl rfl ?_
    refine za rfl (y_len (el := 5) (by kernel_rfl) rfl rfl) rfl rfl ?_
    refine za rfl (yi_geq rfl rfl rfl) rfl rfl ?_
    refine lg_nil ?_
    refine nx (zk5 1 4 5 6 25 rfl rfl rfl rfl rfl (zk2 26 27 rfl rfl fn)) ?_
    refine cg_if rfl (fun hc27 => ?_) (fun hc27 => ?_)
    · have h64 : 64 ≤ mq := by omega
      have l4 := r4.lt
      have l5 := r5.lt
      obtain ⟨bq, oq, rfl, hq, _⟩ := o3.2.2 (by omega)
      refine cg_skip ?_
      refine nx (zk5 1 4 5 6 25 rfl rfl rfl rfl rfl (zk2 26 27 rfl rfl fn)) ?_
      refine cg_block ?_
      refine cg_seq ?_
      refine cg_region ?_
      refine za rfl (y_build rfl rfl bO) rfl rfl ?_
      refine lg_allocw (want_none (by rfl)) rfl hzo rfl (by decide) fun b11 w11 n11 => ?_
      have r11 := n11.row
      have k11 := n11.blk
      have z11 := n11.size
      refine lg_stw (want_none (by rfl)) r11 rfl rfl rfl (hso _) (cB_one _ _) (by simp only [cB_size]) rfl fun w12 sw12 => ?_
      have r11 := sw12.row
      have zw12 := sw12.size
      refine lg_nil ?_
      refine nx (zk5 1 4 5 6 25 rfl rfl rfl rfl rfl (zk3 26 27 28 rfl rfl rfl (zk1 7 rfl fn))) ?_
      refine cg_seq ?_
      refine cg_seq ?_
      refine cg_region ?_
      refine zA rfl rfl rfl rfl rfl ?_
      refine lg_nil ?_
      refine nx (zk5 1 4 5 6 25 rfl rfl rfl rfl rfl (zk5 26 27 28 7 8 rfl rfl rfl rfl rfl fn)) ?_
      refine cg_block ?_
      have r4 := n11.keep r4
      have r4 := sw12.keep r4 (by omega)
      have r5 := n11.keep r5
      have r5 := sw12.keep r5 (by omega)
      have o3 := o3.below (n11.below.mono (by omega))
      have o3 := o3.below (sw12.below _ (by omega))
      have u := u.trans (n11.below.mono u.size)
      have u := u.trans (sw12.below _ (by omega))
      have l7 := r11.lt
      refine cg_loopE (fun i a v => Holds 55 [(1, .slice A2 m2 c2), (4, pv b2 0), (5, pv b4 0), (6, .slice (some ⟨bq, oq, none⟩) mq cq), (7, pv b11 0), (8, iv i)] a ∧ RowAt v b2 119 (cS (fun _ => 0) (.slice none 0 0) 0) ∧ RowAt v b4 119 (cS (fold s.as.h (s.as.b ++ ys) t) (.slice A3 m3 c3) s.as.n) ∧ Oct v w10.heap.size (some ⟨bq, oq, none⟩) mq ((s.as.b ++ ys).drop (64 * t)) ∧ w10.heap.size ≤ v.heap.size ∧ Below w.heap.size w v ∧ RowAt v b11 138 (cB 64 (bF (s.as.b ++ ys) t i))) 64 (fun a ha => ⟨ha.keep (fk rfl (fk rfl (fk rfl (fk rfl (fk rfl (fk rfl fn)))))), r4, r5, o3, by omega, u, r11⟩) ?_
      rintro i a v ht ⟨ha, r4, r5, o3, hbx, u, r7⟩
      refine cg_at ha ?_
      clear ha a
      have zv := u.size
      refine cg_seq ?_
      refine cg_seq ?_
      refine cg_region ?_
      refine zM rfl rfl rfl rfl rfl ?_
      refine za rfl (yi_lss rfl rfl rfl) rfl rfl ?_
      refine lg_nil ?_
      refine nx (zk5 1 4 5 6 7 rfl rfl rfl rfl rfl (zk3 8 29 30 rfl rfl rfl fn)) ?_
      refine cg_if rfl (fun hc30 => ?_) (fun hc30 => ?_)
      · refine cg_skip ?_
        refine nx (zk5 1 4 5 6 7 rfl rfl rfl rfl rfl (zk3 8 29 30 rfl rfl rfl fn)) ?_
        refine cg_seq ?_
        refine cg_block ?_
        refine cg_region ?_
        refine zM rfl rfl rfl rfl rfl ?_
        refine zM rfl rfl rfl rfl rfl ?_
        refine zM rfl rfl rfl rfl rfl ?_
        refine za rfl (y_ixo (i := i) rfl (by omega) rfl rfl rfl) rfl rfl ?_
        refine za rfl (y_celld (o3.cellv (by omega)) (by kernel_rfl) rfl rfl) rfl rfl ?_
        refine za rfl (y_ixa (j := i) huo hsb (by omega) rfl rfl rfl) rfl rfl ?_
        refine lg_st1 (want_none (by rfl)) r7 rfl rfl rfl (by kernel_rfl) rfl (by rw [cB_size]; omega) cB_set rfl fun w13 sw13 => ?_
        have r7 := sw13.row
        have zw13 := sw13.size
        refine lg_nil ?_
        refine eg_block_norm ?_
        refine nx (zk5 1 4 5 6 7 rfl rfl rfl rfl rfl (zk5 8 29 30 33 34 rfl rfl rfl rfl rfl (zk3 35 36 37 rfl rfl rfl (zk1 38 rfl fn)))) ?_
        refine cg_region ?_
        refine zM rfl rfl rfl rfl rfl ?_
        refine za rfl (yi_add rfl rfl rfl (by omega) (by omega)) rfl rfl ?_
        refine zA rfl rfl rfl rfl rfl ?_
        refine lg_nil ?_
        have r4 := sw13.keep r4 (by omega)
        have r5 := sw13.keep r5 (by omega)
        have o3 := o3.below (sw13.below _ (by omega))
        have u := u.trans (sw13.below _ (by omega))
        exact fun a ha => (show i < 64 ∧ _ from ⟨(by omega), ha.keep (fk rfl (fk rfl (fk rfl (fk rfl (fk rfl (fk rfl fn)))))), r4, r5, o3, by omega, u, r7⟩)
      · obtain rfl : i = 64 := by omega
        rw [cB_ext (bF_eq (s.as.b ++ ys) t)] at r7
        refine cg_exit ?_
        refine eg_seq_exit ?_
        refine eg_seq_exit ?_
        refine eg_block_exit ?_
        refine nx (zk5 1 4 5 6 7 rfl rfl rfl rfl rfl (zk3 8 29 30 rfl rfl rfl fn)) ?_
        refine cg_seq ?_
        refine cg_region ?_
        refine za rfl (y_fld (off := 0) (by kernel_rfl) rfl rfl) rfl rfl ?_
        refine za rfl (y_part r5 (m := 8) (cS_part _ _ _) (by show _ ≤ 10; omega) (by kernel_rfl) (by kernel_rfl) rfl rfl) rfl rfl ?_
        refine za rfl (y_part r7 (m := 64) (cB64_part _) (by rw [cB_size]; omega) (by kernel_rfl) (by kernel_rfl) rfl rfl) rfl rfl ?_
        refine lg_callw (want_none (by rfl)) (rmix_any _ _ _) (by kernel_rfl) rfl rfl rfl (by decide) ?_
        rintro _ w14 ⟨rfl, hw14⟩
        have zw14 := hw14.size
        refine za rfl (y_fld (off := 0) (by kernel_rfl) rfl rfl) rfl rfl ?_
        have r5 := RowAt.below hw14 r5.lt r5
        have qw15 := r5
        refine lg_st (want_none (by rfl)) r5 rfl rfl rfl (hs8 _) (cW_one _ _) (by show 0 + (cW 8 _).size ≤ 10; rw [cW_size]; omega) (cS_set _ _ _ _) rfl fun w15 sw15 => ?_
        have r5 := sw15.row
        have zw15 := sw15.size
        refine lg_nil ?_
        refine nx (zk5 1 4 5 6 7 rfl rfl rfl rfl rfl (zk5 8 29 30 39 40 rfl rfl rfl rfl rfl (zk3 41 42 43 rfl rfl rfl fn))) ?_
        refine cg_region ?_
        refine zM rfl rfl rfl rfl rfl ?_
        refine za rfl (y_cut_l 64 rfl (by omega) rfl rfl rfl) rfl rfl ?_
        refine zA rfl rfl rfl rfl rfl ?_
        refine lg_nil ?_
        refine eg_block_norm ?_
        have o3 := o3.below (hw14.mono (by omega))
        have o3 := o3.set qw15 cS_no sw15
        have o3 := o3.cutA 64 cq hc3 (by omega)
        rw [List.drop_drop, show 64 * t + 64 = 64 * (t + 1) by omega] at o3
        have r4 := RowAt.below hw14 r4.lt r4
        have r4 := sw15.keep r4 (by omega)
        have u := u.trans (hw14.mono u.size)
        have u := u.trans (sw15.below _ (by omega))
        exact fun a ha => (show t < ((s.as.b ++ ys).length / 64) ∧ _ from ⟨(by omega), _, _, _, ha.keep (fk rfl (fk rfl (fk rfl (fk rfl fn)))), r4, (show RowAt _ _ _ (cS (fold s.as.h (s.as.b ++ ys) (t + 1)) _ _) from r5), o3, by omega, by omega, by omega, u⟩)
    · refine cg_exit ?_
      refine eg_seq_exit ?_
      refine eg_seq_exit ?_
      refine eg_block_exit ?_
      refine nx (zk3 1 4 5 rfl rfl rfl (zk1 6 rfl fn)) ?_
      refine cg_seq ?_
      refine cg_region ?_
      refine za rfl (y_fld (off := 0) (by kernel_rfl) rfl rfl) rfl rfl ?_
      refine za rfl (y_part r5 (m := 8) (cS_part _ _ _) (by show _ ≤ 10; omega) (by kernel_rfl) (by kernel_rfl) rfl rfl) rfl rfl ?_
      refine zM rfl rfl rfl rfl rfl ?_
      refine za rfl (y_fld (off := 9) (by kernel_rfl) rfl rfl) rfl rfl ?_
      refine za rfl (y_cellv r5 (cS_9 _ _ _) (by kernel_rfl) rfl rfl) rfl rfl ?_
      refine zM rfl rfl rfl rfl rfl ?_
      refine za rfl (y_len (el := 5) (by kernel_rfl) rfl rfl) rfl rfl ?_
      refine za rfl (yi_add rfl rfl rfl (by omega) (by omega)) rfl rfl ?_
      refine za rfl (y_build rfl rfl (bR3 _ () _)) rfl rfl ?_
      have qw16 := r4
      refine lg_stw (want_none (by rfl)) r4 rfl rfl rfl (hsR _ _ _) (cS_one _ _ _ _ _) rfl rfl fun w16 sw16 => ?_
      have r4 := sw16.row
      have zw16 := sw16.size
      refine lg_nil ?_
      refine nx (zk1 4 rfl fn) ?_
      refine cg_ret ?_
      have u := u.trans (sw16.below _ (by omega))
      have o3 := o3.set qw16 cS_no sw16
      have hN : (s.as.b ++ ys).length / 64 = t := by omega
      have eh : fold s.as.h (s.as.b ++ ys) t = hOf s.as.h (s.as.b ++ ys) := by unfold hOf; rw [hN]
      have er : (s.as.b ++ ys).drop (64 * t) = rest (s.as.b ++ ys) := by unfold rest; rw [hN]
      rw [eh] at r4
      rw [er] at o3
      exact eg_ret_agg rfl rfl r4 (by kernel_rfl) (hsR _ _ _) ⟨_, rfl, (by rw [ew]; exact ⟨_, _, _, (by first | rfl | rw [hl2]), o3.more (by omega), u⟩)⟩
end Go.Proofs.YtkcpmpbjjnknhaaGreatDoor
