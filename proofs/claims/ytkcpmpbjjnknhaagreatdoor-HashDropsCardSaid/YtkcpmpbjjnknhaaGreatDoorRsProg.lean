/-
  What the program tells of nodes below.
-/
import Derived.Test.YtkcpmpbjjnknhaaGreatDoorWkR
import Derived.Test.YtkcpmpbjjnknhaaGreatDoorRsMath
import Derived.Test.YtkcpmpbjjnknhaaGreatDoorKitT
import Derived.Test.YtkcpmpbjjnknhaaGreatDoorKitI
namespace Go.Proofs.YtkcpmpbjjnknhaaGreatDoor
open Go.ChangeShapes Go.WideShapes Go.ChangeAt Go.RowKit
set_option linter.unusedVariables false

/-- What the iterator reads: what lay below B, and its two boxes. -/
def depH (B bx bt : Nat) : Nat → Prop := fun k => k < B ∨ k = bx ∨ k = bt
abbrev TH (B bx bt : Nat) (xs : List Int) (w : World) : Prop := Tells Tryz.prog 99 #[pv bx 0, pv bt 0] (fun k : Int => #[nv k]) xs (depH B bx bt) w
theorem high_any {B : Nat} {Ls : List Nd} (s : SlV) (x : Int) (W : World) (h : RwNd W B s Ls) : Calls Tryz.prog 62 #[s.v, nv x] W fun e W' => ∃ v, e = .returned v ∧ ∃ bx bt, v = .func (.func 99) #[] #[pv bx 0, pv bt 0] ∧ RowAt W' bx 3 #[nv x] ∧ RowAt W' bt 22 #[s.v] ∧ W.heap.size ≤ bx ∧ W.heap.size ≤ bt ∧ Below W.heap.size W W' := by
  refine calls_cg (n := 6) Tryz.func62 rfl Tryz.ntmps62 (by simp) ?_
  show CG _ _ _ [(0, s.v), (1, nv x)] _ _
  have u := Below.refl W.heap.size W
  refine cg_seq ?_
  refine cg_region ?_
  refine lg_boxs rfl (want_none (by rfl)) rfl rfl rfl (by decide) fun b1 w1 n1 => ?_
  have r1 := n1.row
  have k1 := n1.blk
  have z1 := n1.size
  have lt1 : b1 < w1.heap.size := by omega
  refine lg_boxs rfl (want_none (by rfl)) rfl rfl rfl (by decide) fun b2 w2 n2 => ?_
  have r2 := n2.row
  have k2 := n2.blk
  have z2 := n2.size
  have lt2 : b2 < w2.heap.size := by omega
  refine zA rfl rfl rfl rfl rfl ?_
  refine lg_nil ?_
  refine nx (zk3 2 3 4 rfl rfl rfl fn) ?_
  refine cg_seq ?_
  refine cg_region ?_
  refine za rfl (y_mkf (xs := []) (ys := [.tmp 3, .tmp 2]) rfl rfl rfl) rfl rfl ?_
  refine zA rfl rfl rfl rfl rfl ?_
  refine lg_nil ?_
  refine nx (zk1 4 rfl fn) ?_
  refine cg_ret ?_
  have r1 := n2.keep r1
  have u := u.trans (n1.below.mono u.size)
  have u := u.trans (n2.below.mono u.size)
  exact eg_ret_tmp rfl rfl ⟨_, rfl, b2, b1, rfl, r2, r1, by omega, by omega, u⟩
set_option maxRecDepth 20000 in
theorem high_step (ks : Nat → List Int) (x : Int) (bx bt B : Nat) (s : SlV) (Ls : List Nd) (w0 : World) (hB0 : B ≤ w0.heap.size) (htab : 2 < B) (h00 : RwNd w0 B s Ls) (rg0 : Tb w0) (hx0 : RowAt w0 bx 3 #[nv x]) (hb0 : RowAt w0 bt 22 #[s.v])
    (ih : isN x (Ls.length : Int) → (atN Ls x.toNat).kind = 0 → ∀ i, i < 2 → ∀ bx' bt' w', B ≤ w'.heap.size → RwNd w' B s Ls → Tb w' → RowAt w' bx' 3 #[nv (kidI x (Ls.length : Int) i)] → RowAt w' bt' 22 #[s.v] → TH B bx' bt' (ks i) w') :
    TH B bx bt (hiF Ls x ks) w0 := by
  intro l J Jx W m0 hW hm0 hJa hJxa hY hJ
  refine callsIn_wide.2 ?_
  have hWB := hW.below (n0 := B) (fun k hk => .inl hk) hB0
  have hx := hW.row (.inr (.inl rfl)) hx0
  have hb := hW.row (.inr (.inr rfl)) hb0
  have h := h00.below hWB
  have rg := rg0.from hWB htab
  have lx := hx.lt
  have lb := hb.lt
  have zW := hW.size
  have hd : Did m0 m0 W W := Did.refl fun k q => (hm0 k q).2
  have hlow : ∀ {m : Nat → Prop} {v : World}, Did m0 m W v → ∀ k, depH B bx bt k → ¬ m k := fun d k hk q => (d.new k q).elim (fun q => (hm0 k q).1 hk) fun q => by
    rcases hk with hk | rfl | rfl <;> omega
  show Calls _ _ ([.func (.yield l) #[] #[], pv bx 0, pv bt 0] : List Value).toArray W _
  refine calls_cx (n := 42) Tryz.func99 rfl Tryz.ntmps99 (by simp) (fun _ q => by simp at q) ?_
  show CX none [] _ _ _ [(0, .func (.yield l) #[] #[]), (1, pv bx 0), (2, pv bt 0)] _ _
  refine cx_seq ?_
  refine cx_region ?_
  refine lg_boxs rfl (want_none (by rfl)) rfl rfl rfl (by decide) fun b1 w1 n1 => ?_
  have r1 := n1.row
  have k1 := n1.blk
  have z1 := n1.size
  have lt1 : b1 < w1.heap.size := by omega
  refine lg_nil ?_
  refine nxx (zk3 1 2 3 rfl rfl rfl fn) ?_
  refine cx_seq ?_
  refine cx_seq ?_
  refine cx_region ?_
  have hx := n1.keep hx
  refine za rfl (y_cellv (v := nv x) hx rfl (by kernel_rfl) rfl rfl) rfl rfl ?_
  have hb := n1.keep hb
  refine za rfl (y_cellv (v := s.v) hb rfl (by kernel_rfl) rfl rfl) rfl rfl ?_
  have h := h.below (n1.below.mono (by omega))
  refine za rfl (y_lenM (el := 40) h.len (by kernel_rfl) rfl rfl) rfl rfl ?_
  by_cases c2 : isN x (Ls.length : Int)
  · refine za rfl (yb (decide_eq_true c2) (y_call (isL_any x (Ls.length : Int) _) (by kernel_rfl) rfl rfl)) rfl rfl ?_
    refine za rfl (y_bnot rfl rfl) rfl rfl ?_
    refine lg_nil ?_
    refine nxx (zk3 1 2 3 rfl rfl rfl (zk1 11 rfl fn)) ?_
    refine cx_cf rfl ?_
    refine cx_skip ?_
    refine nxx (zk3 1 2 3 rfl rfl rfl fn) ?_
    refine cx_seq ?_
    refine cx_seq ?_
    have lex := c2.le
    have q1 := h.len
    have q2 := h.cap
    refine cx_region ?_
    refine za rfl (y_cellv (v := s.v) hb rfl (by kernel_rfl) rfl rfl) rfl rfl ?_
    refine za rfl (y_cellv (v := nv x) hx rfl (by kernel_rfl) rfl rfl) rfl rfl ?_
    obtain ⟨eb3, eo3, el3, eL3, eA3, eB3, eg3, eh3, ec3⟩ := h.at (x.toNat) (by have := h.len; omega)
    refine za rfl (y_ixR (s := s) (el := 40) (k := 8) (i := x.toNat) (iI := x) eA3 (by kernel_rfl) (by kernel_rfl) (by omega) (by have := h.len; omega) rfl rfl rfl) rfl rfl ?_
    refine za rfl (y_fld (off := 0) (by kernel_rfl) rfl rfl) rfl rfl ?_
    refine za rfl (y_celld (ec3 0 _ rfl) (by kernel_rfl) rfl rfl) rfl rfl ?_
    by_cases c4 : eL3.kind = 0
    · refine za rfl (yb (nd_f c4) (yi_neq rfl rfl rfl)) rfl rfl ?_
      refine lg_nil ?_
      refine nxx (zk3 1 2 3 rfl rfl rfl (zk1 17 rfl fn)) ?_
      refine cx_cf rfl ?_
      refine cx_skip ?_
      refine nxx (zk3 1 2 3 rfl rfl rfl fn) ?_
      refine cx_seq ?_
      refine cx_still (by kernel_rfl) (by kernel_rfl) fun W5 eW5 => ?_
      have dW5 := below_drew _ _ eW5
      have zW5 := size_drew _ _ eW5
      clear eW5
      have hx := RowAt.below dW5 hx.lt hx
      refine zsa rfl (y_cellv (v := nv x) hx rfl (by kernel_rfl) rfl rfl) rfl rfl ?_
      have hb := RowAt.below dW5 hb.lt hb
      refine zsa rfl (y_cellv (v := s.v) hb rfl (by kernel_rfl) rfl rfl) rfl rfl ?_
      have h := h.below (dW5.mono (by omega))
      refine zsa rfl (y_lenM (el := 40) h.len (by kernel_rfl) rfl rfl) rfl rfl ?_
      have rg := rg.up n1.below
      have rg := rg.up dW5
      refine zsa rfl (y_call (left_any x (Ls.length : Int) _ rg) (by kernel_rfl) rfl rfl) rfl rfl ?_
      refine zsa rfl (y_cellv (v := nv x) hx rfl (by kernel_rfl) rfl rfl) rfl rfl ?_
      refine zsa rfl (y_cellv (v := s.v) hb rfl (by kernel_rfl) rfl rfl) rfl rfl ?_
      refine zsa rfl (y_lenM (el := 40) h.len (by kernel_rfl) rfl rfl) rfl rfl ?_
      refine zsa rfl (y_call (right_any x (Ls.length : Int) _ rg) (by kernel_rfl) rfl rfl) rfl rfl ?_
      refine zsa rfl (y_build (cs := #[nv (leftI x (Ls.length : Int)), nv (rightI x (Ls.length : Int))]) rfl rfl (by kernel_rfl)) rfl rfl ?_
      refine zsa rfl (y_move rfl rfl) rfl rfl ?_
      refine sg_nil ?_
      refine nxx (zk3 2 3 29 rfl rfl rfl (zk1 30 rfl fn)) ?_
      refine cx_block ?_
      have hxs : hiF Ls x ks = ks 0 ++ ks 1 := hi_two c2 (at_kind (p := fun k => k = 0) eg3 c4)
      have r1 := RowAt.below dW5 r1.lt r1
      have hd := hd.call n1.below
      have hd := hd.call dW5
      have hJ := hJa.call (by omega) hJ n1.below
      have hJ := hJa.call (by omega) hJ dW5
      refine cx_loopD (fun t ds a v => ∃ (Ds : List Nat) (m : Nat → Prop), Holds 42 [(2, pv bt 0), (3, pv b1 0), (29, .agg #[nv (leftI x (Ls.length : Int)), nv (rightI x (Ls.length : Int))]), (30, nv ((t : Nat) : Int))] a ∧ ds = Ds.map mark ∧ RwNd v B s Ls ∧ RowAt v b1 65 #[.func (.yield l) #[] #[]] ∧ RowAt v bt 22 #[s.v] ∧ Tb v ∧ Did m0 m W v ∧ J (hiK ks t) m v ∧ Marks W.heap.size m Ds v ∧ ¬ m b1) 2 (fun a ha => ⟨[], m0, ha.keep (fk rfl (fk rfl (fk rfl (fk rfl fn)))), rfl, h, r1, hb, rg, hd, hJ, Marks.nil _ _ _, (fun q => by have := (hm0 _ q).2; omega)⟩) ?_
      rintro t ds a v ht ⟨Ds, m, ha, hds, h, r1, hb, rg, hd, hJ, hM, hn⟩
      refine cx_at ha ?_
      clear ha a
      have l_r1 := r1.lt
      have l_hb := hb.lt
      subst hds
      have zd := hd.kept.size
      have ltv := hd.lt
      refine cx_seq ?_
      refine cx_region ?_
      by_cases c6 : ((t : Nat) : Int) < 2
      · refine za rfl (yb (decide_eq_true c6) (yi_lss rfl rfl rfl)) rfl rfl ?_
        refine lg_nil ?_
        refine nxx (zk5 2 3 29 30 31 rfl rfl rfl rfl rfl fn) ?_
        refine cx_seq ?_
        refine cx_ct rfl ?_
        refine cx_skip ?_
        refine nxx (zk3 2 3 29 rfl rfl rfl (zk1 30 rfl fn)) ?_
        refine cx_seq ?_
        refine cx_block ?_
        refine cx_seq ?_
        have ht2 : t < 2 := by omega
        refine cx_region ?_
        have hk2 : (#[nv (leftI x (Ls.length : Int)), nv (rightI x (Ls.length : Int))] : Array Value)[t]? = some (nv (kidI x (Ls.length : Int) t)) := by
          rcases (by omega : t = 0 ∨ t = 1) with rfl | rfl <;> rfl
        refine za rfl (y_idx (len := 2) (el := 3) (k := .i64) (by kernel_rfl) (by kernel_rfl) (by kernel_rfl) (by omega) hk2 rfl rfl rfl) rfl rfl ?_
        refine zA rfl rfl rfl rfl rfl ?_
        refine lg_nil ?_
        refine nxx (zk5 2 3 29 30 5 rfl rfl rfl rfl rfl fn) ?_
        refine cx_seq ?_
        refine cx_region ?_
        refine za rfl (y_cellv (v := s.v) hb rfl (by kernel_rfl) rfl rfl) rfl rfl ?_
        refine zM rfl rfl rfl rfl rfl ?_
        refine lg_callw (want_none (by rfl)) (high_any s (kidI x (Ls.length : Int) t) _ h) (by kernel_rfl) rfl rfl rfl (by decide) ?_
        rintro _ w7 ⟨bx7, bt7, rfl, x7, y7, i7, j7, hw7⟩
        have zw7 := hw7.size
        have lx7 := x7.lt
        have ly7 := y7.lt
        refine lg_nil ?_
        refine nxx (zk5 2 3 29 30 35 rfl rfl rfl rfl rfl fn) ?_
        refine cx_block ?_
        have h := h.below (hw7.mono (by omega))
        have r1 := RowAt.below hw7 r1.lt r1
        have hb := RowAt.below hw7 hb.lt hb
        have rg := rg.up hw7
        have hd := hd.call hw7
        have hJ := hJa.call (by omega) hJ hw7
        have hM := hM.call hw7
        have hn := hn
        refine cx_told1 (enc := (fun k : Int => nv k)) (d' := 6) (m0 := m) (by kernel_rfl) rfl (ih c2 (at_kind (p := fun k => k = 0) eg3 c4) t ht2 bx7 bt7 _ (by omega) h rg x7 y7) (fun k q => ⟨fun z => z.elim (fun z => hlow hd k (.inl z) q) (fun z => by have := ltv k q; rcases z with rfl | rfl <;> omega), by have := ltv k q; omega⟩) (fun k hk z => by rcases z with z | rfl | rfl <;> omega) (by decide) 
          (fun pre m X => J (hiK ks t ++ pre) m X)
          (fun c pre m X => c = .ret ∧ Jx (hiK ks t ++ pre) m X)
          (fun s m X Y hX hj k => hJa _ _ _ _ (by omega) hj (k.mono fun i _ q => q.elim .inl fun q => .inr (by omega)))
          (fun c s m X Y hX hj k => ⟨hj.1, hJxa _ _ _ _ (by omega) hj.2 (k.mono fun i _ q => q.elim .inl fun q => .inr (by omega))⟩)
          (by rw [List.append_nil]; exact hJ)
          (fun l x W => as_take rfl rfl rfl rfl (by decide) rfl l W)
          ?_ ?_ ?_
        · rintro l8 pre8 k8 v8 m8 d8 hi8 hp8
          have hJ := hi8
          have hd := hd.trans d8
          have r1 := d8.kept.row hn r1
          have zv8 := d8.kept.size
          refine cx_block ?_
          refine cx_seq ?_
          refine cx_regionx ?_
          refine lxw (want_none (by rfl)) (y_cellv (v := .func (.yield l) #[] #[]) r1 rfl (by kernel_rfl) rfl rfl) rfl (by decide) ?_
          refine lxw (want_none (by rfl)) (y_move rfl rfl) rfl (by decide) ?_
          refine lx_yields (want_none (by rfl)) (hY (hiK ks t ++ pre8) k8 v8 m8 hd hJ (by rw [hxs, List.append_assoc]; exact hiK_pre ht2 hp8)) rfl rfl rfl rfl (by decide) ?_ ?_
          · rintro w9 ⟨m9, j9, g9⟩
            have hd := (hd).trans j9
            have zy9 := j9.kept.size
            have hJ := g9
            refine lxw (want_none (by rfl)) (y_bnot rfl rfl) rfl (by decide) ?_
            refine lx_nil ?_
            refine nxx (zk1 40 rfl fn) ?_
            refine cx_cf rfl ?_
            refine cx_skip ?_
            refine xg_block_norm ?_
            exact fun a ha => ⟨m9, j9, by show J (hiK ks t ++ (pre8 ++ [k8])) _ _; rw [← List.append_assoc]; exact hJ⟩
          · rintro w9 ⟨m9, j9, g9⟩
            have hd := (hd).trans j9
            have zy9 := j9.kept.size
            have hJx := g9
            refine lxw (want_none (by rfl)) (y_bnot rfl rfl) rfl (by decide) ?_
            refine lx_nil ?_
            refine nxx (zk1 40 rfl fn) ?_
            refine cx_ct rfl ?_
            refine cx_ret ?_
            refine xg_block_ret ?_
            exact fun a ha => ⟨m9, j9, rfl, by show Jx (hiK ks t ++ (pre8 ++ [k8])) _ _; rw [← List.append_assoc]; exact hJx⟩
        · rintro D8 v8d m8 hz8 d8 nD8 hi8 hD8
          have low8 := d8.kept.below (n0 := B) (fun k hk => hlow hd k (.inl hk)) (by omega)
          have hM := hM.cons d8 (by omega) hz8 nD8 hD8
          have h := h.below low8
          have r1 := d8.kept.row hn r1
          have hb := d8.kept.row (hlow hd bt (.inr (.inr rfl))) hb
          have rg := rg.from low8 htab
          have hn : ¬ m8 b1 := fun q => (d8.new _ q).elim hn fun q => by omega
          have hd := hd.trans d8
          have hJ := hi8
          have zv8 := d8.kept.size
          refine xg_block_norm ?_
          refine xg_block_norm ?_
          refine nxx (zk3 2 3 29 rfl rfl rfl (zk1 30 rfl fn)) ?_
          refine cx_region ?_
          refine za rfl (yv (congrArg nv (show ((t : Nat) : Int) + 1 = ((t + 1 : Nat) : Int) by omega)) (yi_add rfl rfl rfl (by omega) (by omega))) rfl rfl ?_
          refine zM rfl rfl rfl rfl rfl ?_
          refine lg_nil ?_
          exact fun a ha => (show t < 2 ∧ _ from ⟨(by omega), ((D8 :: Ds).map mark), a, rfl, (D8 :: Ds), m8, ha.keep (fk rfl (fk rfl (fk rfl (fk rfl fn)))), rfl, h, r1, hb, rg, hd, hJ, hM, hn⟩)
        · rintro D8 c8 pre8 v8s m8 hz8 hp8 d8 nD8 hi8 hD8
          obtain ⟨rfl, hJx⟩ := hi8
          have hM := hM.cons d8 (by omega) hz8 nD8 hD8
          have hd := hd.trans d8
          have zv8 := d8.kept.size
          refine cx_ret ?_
          refine xg_block_ret ?_
          refine xg_block_ret ?_
          refine xg_seq_ret ?_
          refine xg_seq_ret ?_
          refine xg_block_ret ?_
          obtain ⟨op, dd, kp⟩ := Marks.closed (Nat.le_refl _) (hM) hd
          exact xg_ret (D8 :: Ds) op (res_none rfl) ⟨⟨_, rfl⟩, m8, dd, .inr ⟨_, (by rw [hxs]; exact hiK_pre ht2 hp8), hJxa _ _ _ _ (by omega) hJx kp⟩⟩
      · refine za rfl (yb (decide_eq_false c6) (yi_lss rfl rfl rfl)) rfl rfl ?_
        refine lg_nil ?_
        refine nxx (zk5 2 3 29 30 31 rfl rfl rfl rfl rfl fn) ?_
        refine cx_seq ?_
        refine cx_cf rfl ?_
        refine cx_exit ?_
        refine xg_seq_exit ?_
        refine xg_seq_exit ?_
        refine xg_block_exit ?_
        obtain rfl : t = 2 := by omega
        obtain ⟨op, dd, kp⟩ := Marks.closed (Nat.le_refl _) hM hd
        exact xg_end Ds op (res_none rfl) ⟨⟨_, rfl⟩, m, dd, .inl (by rw [hxs, ← hiK_two]; exact hJa _ _ _ _ (by omega) hJ kp)⟩
    · refine za rfl (yb (nd_t c4) (yi_neq rfl rfl rfl)) rfl rfl ?_
      refine lg_nil ?_
      refine nxx (zk3 1 2 3 rfl rfl rfl (zk1 17 rfl fn)) ?_
      refine cx_ct rfl ?_
      refine cx_seq ?_
      refine cx_regionx ?_
      refine lxw (want_none (by rfl)) (y_cellv (v := .func (.yield l) #[] #[]) r1 rfl (by kernel_rfl) rfl rfl) rfl (by decide) ?_
      refine lxw (want_none (by rfl)) (y_cellv (v := nv x) hx rfl (by kernel_rfl) rfl rfl) rfl (by decide) ?_
      have hxs : hiF Ls x ks = [x] := hi_one c2 (at_kind (p := fun k => ¬ k = 0) eg3 c4)
      have hd := hd.call n1.below
      have hJ := hJa.call (by omega) hJ n1.below
      refine lx_yields (want_none (by rfl)) (hY [] x w1 m0 hd hJ (by rw [hxs]; exact List.prefix_refl _)) rfl rfl rfl rfl (by decide) ?_ ?_
      · rintro w10 ⟨m10, j10, g10⟩
        have hd := (hd).trans j10
        have zy10 := j10.kept.size
        have hJ := g10
        refine lx_nil ?_
        refine nxx (zk3 1 2 3 rfl rfl rfl fn) ?_
        refine cx_ret ?_
        refine xg_seq_ret ?_
        obtain ⟨op, dd, kp⟩ := Marks.closed (Nat.le_refl _) (Marks.nil _ _ _) hd
        exact xg_ret [] op (res_none rfl) ⟨⟨_, rfl⟩, m10, dd, .inl (by rw [hxs]; exact hJa _ _ _ _ (by omega) hJ kp)⟩
      · rintro w10 ⟨m10, j10, g10⟩
        have hd := (hd).trans j10
        have zy10 := j10.kept.size
        have hJx := g10
        refine lx_nil ?_
        refine nxx (zk3 1 2 3 rfl rfl rfl fn) ?_
        refine cx_ret ?_
        refine xg_seq_ret ?_
        obtain ⟨op, dd, kp⟩ := Marks.closed (Nat.le_refl _) (Marks.nil _ _ _) hd
        exact xg_ret [] op (res_none rfl) ⟨⟨_, rfl⟩, m10, dd, .inr ⟨[x], (by rw [hxs]; exact List.prefix_refl _), hJxa _ _ _ _ (by omega) hJx kp⟩⟩
  · refine za rfl (yb (decide_eq_false c2) (y_call (isL_any x (Ls.length : Int) _) (by kernel_rfl) rfl rfl)) rfl rfl ?_
    refine za rfl (y_bnot rfl rfl) rfl rfl ?_
    refine lg_nil ?_
    refine nxx (zk3 1 2 3 rfl rfl rfl (zk1 11 rfl fn)) ?_
    refine cx_ct rfl ?_
    refine cx_ret ?_
    refine xg_seq_ret ?_
    have hxs : hiF Ls x ks = [] := hi_no c2
    have hd := hd.call n1.below
    have hJ := hJa.call (by omega) hJ n1.below
    obtain ⟨op, dd, kp⟩ := Marks.closed (Nat.le_refl _) (Marks.nil _ _ _) hd
    exact xg_ret [] op (res_none rfl) ⟨⟨_, rfl⟩, m0, dd, .inl (by rw [hxs]; exact hJa _ _ _ _ (by omega) hJ kp)⟩
theorem high_tells {B : Nat} {s : SlV} {Ls : List Nd} (htab : 2 < B) : ∀ (n : Nat) (x : Int) (bx bt : Nat) (w0 : World), (isN x (Ls.length : Int) → lvl x < n) → B ≤ w0.heap.size → RwNd w0 B s Ls → Tb w0 → RowAt w0 bx 3 #[nv x] → RowAt w0 bt 22 #[s.v] → TH B bx bt (hiN n Ls x) w0
  | 0, x, bx, bt, w0, hl, hB, h, rg, hx, hb => by
    have hn : ¬ isN x (Ls.length : Int) := fun q => by have := hl q; have := (kids q).1; omega
    have := high_step (fun _ => []) x bx bt B s Ls w0 hB htab h rg hx hb fun q => absurd q hn
    rwa [hi_no hn] at this
  | n + 1, x, bx, bt, w0, hl, hB, h, rg, hx, hb => high_step (fun i => hiN n Ls (kidI x Ls.length i)) x bx bt B s Ls w0 hB htab h rg hx hb fun q hk i hi bx' bt' w' hB' h' rg' hx' hb' =>
    high_tells htab n _ bx' bt' w' (fun k => by have := kid_lvl q k; have := hl q; omega) hB' h' rg' hx' hb'
end Go.Proofs.YtkcpmpbjjnknhaaGreatDoor
