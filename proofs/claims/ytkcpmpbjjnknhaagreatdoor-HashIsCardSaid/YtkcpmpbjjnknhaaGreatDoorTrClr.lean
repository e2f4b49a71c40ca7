/-
  Trees: a leaf and its way up are blank.
-/
import Derived.Test.YtkcpmpbjjnknhaaGreatDoorTrRef
import Derived.Test.YtkcpmpbjjnknhaaGreatDoorKitI
namespace Go.Proofs.YtkcpmpbjjnknhaaGreatDoor
open Go.ChangeShapes Go.WideShapes Go.ChangeAt Go.RowKit
set_option linter.unusedVariables false

theorem clone_any {W : World} {s : SlV} {Ls : List Nd} {bc : Nat} (h : RwNd W W.heap.size s Ls) (hb : bc = W.heap.size) (hpos : 0 < Ls.length) (hle : Ls.length ≤ 1000000) : Calls Tryz.prog 40 #[s.v] W fun e W' => ∃ v, e = .returned v ∧ ∃ r : SlV, v = r.v ∧ OwnNd W' bc bc r.v Ls ∧ Below W.heap.size W W' := by
  refine calls_cg (n := 8) Tryz.func40 rfl Tryz.ntmps40 (by simp) ?_
  show CG _ _ _ [(0, s.v)] _ _
  have u := Below.refl W.heap.size W
  have q1 := h.len
  have q2 := h.cap
  obtain ⟨b0, o0, hA, _⟩ := h.2.2.2 (by omega)
  refine cg_seq ?_
  refine cg_region ?_
  refine zA rfl rfl rfl rfl rfl ?_
  refine lg_nil ?_
  refine nx (zk2 0 2 rfl rfl fn) ?_
  refine cg_seq ?_
  refine cg_seq ?_
  refine cg_region ?_
  refine zM rfl rfl rfl rfl rfl ?_
  refine za rfl (y_nilR hA rfl rfl rfl) rfl rfl ?_
  refine lg_nil ?_
  refine nx (zk3 0 2 4 rfl rfl rfl fn) ?_
  refine cg_cf rfl ?_
  refine cg_skip ?_
  refine nx (zk2 0 2 rfl rfl fn) ?_
  refine cg_seq ?_
  refine cg_region ?_
  obtain ⟨bs2, hbs2⟩ : ∃ q, q = W.heap.size := ⟨_, rfl⟩
  refine lg_bs0R (want_none (by rfl)) rfl rfl (by decide) fun v1 w1 g1 l1 => ?_
  rw [← hbs2] at g1
  have z1 := l1.size
  refine zM rfl rfl rfl rfl rfl ?_
  have h := h.below (l1.mono (by omega))
  refine lg_appR g1 (h.src.more (B' := bs2) (by omega)) (Nat.le_refl _) (by first | omega | (simp only [List.length_nil]; omega)) (by omega) (want_none (by rfl)) rfl rfl rfl rfl rfl (by decide) fun r3 w3 g3 m3 l3 z3 => ?_
  rw [List.nil_append] at g3
  clear m3
  refine zA rfl rfl rfl rfl rfl ?_
  refine lg_nil ?_
  refine nx (zk1 2 rfl fn) ?_
  refine cg_ret ?_
  have u := u.trans (l1.mono u.size)
  have u := u.trans (l3.mono (by omega))
  exact eg_ret_tmp rfl rfl ⟨_, rfl, _, rfl, by rw [hb]; first | assumption | (subst bs2; assumption), u⟩
end Go.Proofs.YtkcpmpbjjnknhaaGreatDoor
