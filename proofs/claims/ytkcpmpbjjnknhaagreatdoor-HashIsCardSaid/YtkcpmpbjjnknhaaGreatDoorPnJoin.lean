/-
  Joined and cut: the program; cut: the document.
-/
import Derived.Test.YtkcpmpbjjnknhaaGreatDoorKitP
import Derived.Test.YtkcpmpbjjnknhaaGreatDoorNuLib
namespace Go.Proofs.YtkcpmpbjjnknhaaGreatDoor
open Go.ChangeShapes Go.WideShapes Go.ChangeAt Go.RowKit
set_option linter.unusedVariables false

def PutN (w : World) (ys : List Int) (v : Value) (w' : World) : Prop := ∃ r : SlV, v = r.v ∧ SlN w' w'.heap.size r ys ∧ Below w.heap.size w w'
section
variable {w W : World} {B B2 : Nat} {s s2 : SlV} {xs ys : List Int}
theorem sortedP_any (h : SlN W B s xs) (h2 : SlN W B2 s2 ys) (hB : B ≤ W.heap.size) (hB2 : B2 ≤ W.heap.size) (hn : xs.length + ys.length ≤ 1000000) : Calls Tryz.prog 76 #[s.v, s2.v] W fun e w' => ∃ v, e = .returned v ∧ PutN W (riseU (xs ++ ys)) v w' := by
  refine calls_cg (n := 14) Tryz.func76 rfl Tryz.ntmps76 (by simp) ?_
  show CG _ _ _ [(0, s.v), (1, s2.v)] _ _
  have u := Below.refl W.heap.size W
  refine cg_seq ?_
  refine cg_region ?_
  refine zA rfl rfl rfl rfl rfl ?_
  refine lg_nil ?_
  refine nx (zk3 0 1 4 rfl rfl rfl fn) ?_
  refine cg_seq ?_
  refine cg_region ?_
  refine zM rfl rfl rfl rfl rfl ?_
  refine zM rfl rfl rfl rfl rfl ?_
  refine lg_bslice (el := 23) (z := .slice none 0 0) (cs := #[s.v, s2.v]) (by kernel_rfl) (by kernel_rfl) (by decide) (by decide) rfl rfl (by kernel_rfl) rfl rfl (by decide) fun b1 w1 n1 => ?_
  have r1 := n1.row
  have k1 := n1.blk
  have z1 := n1.size
  have lt1 : b1 < w1.heap.size := by omega
  have h := h.below (n1.below.mono (by omega))
  have h2 := h2.below (n1.below.mono (by omega))
  refine lg_callw (want_none (by rfl)) (concatN_S r1 h h2 (by omega) (by omega) (by first | omega | (simp only [List.length_append, List.length_cons, List.length_nil, numOct_length]; omega))) (by kernel_rfl) rfl rfl rfl (by decide) ?_
  rintro v2 w2 ⟨g2, hw2⟩
  have zw2 := hw2.size
  obtain ⟨C3, hC3⟩ : ∃ q, q = w1.heap.size := ⟨_, rfl⟩
  rw [← hC3] at g2
  refine zA rfl rfl rfl rfl rfl ?_
  refine lg_nil ?_
  refine nx (zk2 4 5 rfl rfl fn) ?_
  refine cg_seq ?_
  refine cg_region ?_
  refine zM rfl rfl rfl rfl rfl ?_
  refine lg_callw (want_none (by rfl)) (sort_own g2 (by first | omega | (simp only [List.length_append]; omega)) (by omega)) (by kernel_rfl) rfl rfl rfl (by decide) ?_
  rintro _ w4 ⟨rfl, g4, hw4⟩
  have zw4 := hw4.size
  refine lg_nil ?_
  refine nx (zk2 4 5 rfl rfl fn) ?_
  refine cg_seq ?_
  refine cg_region ?_
  refine zM rfl rfl rfl rfl rfl ?_
  refine lg_callw (want_none (by rfl)) (compact_own g4 (by rw [List.length_mergeSort]; first | omega | (simp only [List.length_append]; omega))) (by kernel_rfl) rfl rfl rfl (by decide) ?_
  rintro v5 w5 ⟨g5, hw5⟩
  have zw5 := hw5.size
  refine zA rfl rfl rfl rfl rfl ?_
  refine lg_nil ?_
  refine nx (zk1 4 rfl fn) ?_
  refine cg_ret ?_
  have gq := g5
  rw [compact_sorted] at gq
  obtain ⟨r, er, hr⟩ := own_SlN gq
  have u := u.trans (n1.below.mono u.size)
  have u := u.trans (hw2.mono u.size)
  have u := u.trans (hw4.mono (by omega))
  have u := u.trans (hw5.mono (by omega))
  exact eg_ret_tmp rfl rfl ⟨_, rfl, r, er, hr, u⟩
end
end Go.Proofs.YtkcpmpbjjnknhaaGreatDoor
