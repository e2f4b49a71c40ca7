/-
  What Spread and Mix are at the example of the chapter; the words of Spread by those ahead.
-/
import Derived.Test.YtdenbbfmiadcbaaDoorBlMore
namespace Go.Proofs.YtdenbbfmiadcbaaDoor
open Go.ChangeShapes Go.WideShapes Go.ChangeAt Go.RowKit
set_option linter.unusedVariables false
set_option maxRecDepth 20000
theorem head_eq (b : Nat → BitVec 8) : ∀ t i, head b t i = if i < t then w4 b i else 0 := by
  intro t
  induction t with
  | zero => intro i; simp [head]
  | succ t ih =>
    intro i
    simp only [head, upd, ih]
    by_cases e : i = t
    · subst e; simp
    · by_cases l : i < t
      · simp [e, l, show i < t + 1 by omega]
      · simp [e, l, show ¬ i < t + 1 by omega]
theorem tail_old (b : Nat → BitVec 8) (k i : Nat) (h : i < 16 + k) : ∀ j, tailF b (k + j) i = tailF b k i := by
  intro j
  induction j with
  | zero => rfl
  | succ j ih =>
    show upd (tailF b (k + j)) (16 + (k + j)) _ i = _
    unfold upd
    rw [if_neg (by omega), ih]
theorem tail_spr (b : Nat → BitVec 8) (k i : Nat) (hk : k ≤ 48) (h : i < 16 + k) : tailF b k i = spr b i := by
  unfold spr
  have := tail_old b k i h (48 - k)
  rw [show k + (48 - k) = 48 by omega] at this
  exact this.symm
theorem spr_lo (b : Nat → BitVec 8) {t : Nat} (h : t < 16) : spr b t = w4 b t := by
  rw [← tail_spr b 0 t (by omega) (by omega)]
  show head b 16 t = _
  rw [head_eq, if_pos h]
theorem spr_hi (b : Nat → BitVec 8) {k : Nat} (h : k < 48) : spr b (16 + k) = nxw (spr b) (16 + k) := by
  rw [← tail_spr b (k + 1) (16 + k) (by omega) (by omega)]
  show upd (tailF b k) (16 + k) (nxw (tailF b k) (16 + k)) (16 + k) = _
  unfold upd
  rw [if_pos rfl]
  unfold nxw
  rw [tail_spr b k _ (by omega) (by omega), tail_spr b k _ (by omega) (by omega), tail_spr b k _ (by omega) (by omega), tail_spr b k _ (by omega) (by omega)]
def b0 : Nat → BitVec 8 := upd (fun _ => 0) 0 128#8
theorem e0 : spr b0 0 = 2147483648#32 := by rw [spr_lo b0 (by omega)]; kernel_rfl
theorem e1 : spr b0 1 = 0#32 := by rw [spr_lo b0 (by omega)]; kernel_rfl
theorem e2 : spr b0 2 = 0#32 := by rw [spr_lo b0 (by omega)]; kernel_rfl
theorem e3 : spr b0 3 = 0#32 := by rw [spr_lo b0 (by omega)]; kernel_rfl
theorem e4 : spr b0 4 = 0#32 := by rw [spr_lo b0 (by omega)]; kernel_rfl
theorem e5 : spr b0 5 = 0#32 := by rw [spr_lo b0 (by omega)]; kernel_rfl
theorem e6 : spr b0 6 = 0#32 := by rw [spr_lo b0 (by omega)]; kernel_rfl
theorem e7 : spr b0 7 = 0#32 := by rw [spr_lo b0 (by omega)]; kernel_rfl
theorem e8 : spr b0 8 = 0#32 := by rw [spr_lo b0 (by omega)]; kernel_rfl
theorem e9 : spr b0 9 = 0#32 := by rw [spr_lo b0 (by omega)]; kernel_rfl
theorem e10 : spr b0 10 = 0#32 := by rw [spr_lo b0 (by omega)]; kernel_rfl
theorem e11 : spr b0 11 = 0#32 := by rw [spr_lo b0 (by omega)]; kernel_rfl
theorem e12 : spr b0 12 = 0#32 := by rw [spr_lo b0 (by omega)]; kernel_rfl
theorem e13 : spr b0 13 = 0#32 := by rw [spr_lo b0 (by omega)]; kernel_rfl
theorem e14 : spr b0 14 = 0#32 := by rw [spr_lo b0 (by omega)]; kernel_rfl
theorem e15 : spr b0 15 = 0#32 := by rw [spr_lo b0 (by omega)]; kernel_rfl
theorem e16 : spr b0 16 = 2147483648#32 := by
  have h := spr_hi b0 (k := 0) (by omega)
  have h2 : spr b0 16 = spr b0 0 + lowX (spr b0 1) + spr b0 9 + lowY (spr b0 14) := h
  have h3 : 2147483648#32 + lowX 0#32 + 0#32 + lowY 0#32 = 2147483648#32 := by kernel_rfl
  rw [h2, e0, e1, e9, e14, h3]
theorem e17 : spr b0 17 = 0#32 := by
  have h := spr_hi b0 (k := 1) (by omega)
  have h2 : spr b0 17 = spr b0 1 + lowX (spr b0 2) + spr b0 10 + lowY (spr b0 15) := h
  have h3 : 0#32 + lowX 0#32 + 0#32 + lowY 0#32 = 0#32 := by kernel_rfl
  rw [h2, e1, e2, e10, e15, h3]
theorem e18 : spr b0 18 = 2117632#32 := by
  have h := spr_hi b0 (k := 2) (by omega)
  have h2 : spr b0 18 = spr b0 2 + lowX (spr b0 3) + spr b0 11 + lowY (spr b0 16) := h
  have h3 : 0#32 + lowX 0#32 + 0#32 + lowY 2147483648#32 = 2117632#32 := by kernel_rfl
  rw [h2, e2, e3, e11, e16, h3]
theorem e19 : spr b0 19 = 0#32 := by
  have h := spr_hi b0 (k := 3) (by omega)
  have h2 : spr b0 19 = spr b0 3 + lowX (spr b0 4) + spr b0 12 + lowY (spr b0 17) := h
  have h3 : 0#32 + lowX 0#32 + 0#32 + lowY 0#32 = 0#32 := by kernel_rfl
  rw [h2, e3, e4, e12, e17, h3]
theorem e20 : spr b0 20 = 570427392#32 := by
  have h := spr_hi b0 (k := 4) (by omega)
  have h2 : spr b0 20 = spr b0 4 + lowX (spr b0 5) + spr b0 13 + lowY (spr b0 18) := h
  have h3 : 0#32 + lowX 0#32 + 0#32 + lowY 2117632#32 = 570427392#32 := by kernel_rfl
  rw [h2, e4, e5, e13, e18, h3]
theorem e21 : spr b0 21 = 0#32 := by
  have h := spr_hi b0 (k := 5) (by omega)
  have h2 : spr b0 21 = spr b0 5 + lowX (spr b0 6) + spr b0 14 + lowY (spr b0 19) := h
  have h3 : 0#32 + lowX 0#32 + 0#32 + lowY 0#32 = 0#32 := by kernel_rfl
  rw [h2, e5, e6, e14, e19, h3]
theorem e22 : spr b0 22 = 84448578#32 := by
  have h := spr_hi b0 (k := 6) (by omega)
  have h2 : spr b0 22 = spr b0 6 + lowX (spr b0 7) + spr b0 15 + lowY (spr b0 20) := h
  have h3 : 0#32 + lowX 0#32 + 0#32 + lowY 570427392#32 = 84448578#32 := by kernel_rfl
  rw [h2, e6, e7, e15, e20, h3]
theorem e23 : spr b0 23 = 2147483648#32 := by
  have h := spr_hi b0 (k := 7) (by omega)
  have h2 : spr b0 23 = spr b0 7 + lowX (spr b0 8) + spr b0 16 + lowY (spr b0 21) := h
  have h3 : 0#32 + lowX 0#32 + 2147483648#32 + lowY 0#32 = 2147483648#32 := by kernel_rfl
  rw [h2, e7, e8, e16, e21, h3]
theorem e24 : spr b0 24 = 1476919296#32 := by
  have h := spr_hi b0 (k := 8) (by omega)
  have h2 : spr b0 24 = spr b0 8 + lowX (spr b0 9) + spr b0 17 + lowY (spr b0 22) := h
  have h3 : 0#32 + lowX 0#32 + 0#32 + lowY 84448578#32 = 1476919296#32 := by kernel_rfl
  rw [h2, e8, e9, e17, e22, h3]
theorem e25 : spr b0 25 = 4235264#32 := by
  have h := spr_hi b0 (k := 9) (by omega)
  have h2 : spr b0 25 = spr b0 9 + lowX (spr b0 10) + spr b0 18 + lowY (spr b0 23) := h
  have h3 : 0#32 + lowX 0#32 + 2117632#32 + lowY 2147483648#32 = 4235264#32 := by kernel_rfl
  rw [h2, e9, e10, e18, e23, h3]
theorem e26 : spr b0 26 = 1451269#32 := by
  have h := spr_hi b0 (k := 10) (by omega)
  have h2 : spr b0 26 = spr b0 10 + lowX (spr b0 11) + spr b0 19 + lowY (spr b0 24) := h
  have h3 : 0#32 + lowX 0#32 + 0#32 + lowY 1476919296#32 = 1451269#32 := by kernel_rfl
  rw [h2, e10, e11, e19, e24, h3]
theorem e27 : spr b0 27 = 1711282176#32 := by
  have h := spr_hi b0 (k := 11) (by omega)
  have h2 : spr b0 27 = spr b0 11 + lowX (spr b0 12) + spr b0 20 + lowY (spr b0 25) := h
  have h3 : 0#32 + lowX 0#32 + 570427392#32 + lowY 4235264#32 = 1711282176#32 := by kernel_rfl
  rw [h2, e11, e12, e20, e25, h3]
theorem e28 : spr b0 28 = 3592562048#32 := by
  have h := spr_hi b0 (k := 12) (by omega)
  have h2 : spr b0 28 = spr b0 12 + lowX (spr b0 13) + spr b0 21 + lowY (spr b0 26) := h
  have h3 : 0#32 + lowX 0#32 + 0#32 + lowY 1451269#32 = 3592562048#32 := by kernel_rfl
  rw [h2, e12, e13, e21, e26, h3]
theorem e29 : spr b0 29 = 337794312#32 := by
  have h := spr_hi b0 (k := 13) (by omega)
  have h2 : spr b0 29 = spr b0 13 + lowX (spr b0 14) + spr b0 22 + lowY (spr b0 27) := h
  have h3 : 0#32 + lowX 0#32 + 84448578#32 + lowY 1711282176#32 = 337794312#32 := by kernel_rfl
  rw [h2, e13, e14, e22, e27, h3]
theorem e30 : spr b0 30 = 3594910044#32 := by
  have h := spr_hi b0 (k := 14) (by omega)
  have h2 : spr b0 30 = spr b0 14 + lowX (spr b0 15) + spr b0 23 + lowY (spr b0 28) := h
  have h3 : 0#32 + lowX 0#32 + 2147483648#32 + lowY 3592562048#32 = 3594910044#32 := by kernel_rfl
  rw [h2, e14, e15, e23, e28, h3]
theorem e31 : spr b0 31 = 3374850048#32 := by
  have h := spr_hi b0 (k := 15) (by omega)
  have h2 : spr b0 31 = spr b0 15 + lowX (spr b0 16) + spr b0 24 + lowY (spr b0 29) := h
  have h3 : 0#32 + lowX 2147483648#32 + 1476919296#32 + lowY 337794312#32 = 3374850048#32 := by kernel_rfl
  rw [h2, e15, e16, e24, e29, h3]
theorem e32 : spr b0 32 = 3287351444#32 := by
  have h := spr_hi b0 (k := 16) (by omega)
  have h2 : spr b0 32 = spr b0 16 + lowX (spr b0 17) + spr b0 25 + lowY (spr b0 30) := h
  have h3 : 2147483648#32 + lowX 0#32 + 4235264#32 + lowY 3594910044#32 = 3287351444#32 := by kernel_rfl
  rw [h2, e16, e17, e25, e30, h3]
theorem e33 : spr b0 33 = 676112230#32 := by
  have h := spr_hi b0 (k := 17) (by omega)
  have h2 : spr b0 33 = spr b0 17 + lowX (spr b0 18) + spr b0 26 + lowY (spr b0 31) := h
  have h3 : 0#32 + lowX 2117632#32 + 1451269#32 + lowY 3374850048#32 = 676112230#32 := by kernel_rfl
  rw [h2, e17, e18, e26, e31, h3]
theorem e34 : spr b0 34 = 109604294#32 := by
  have h := spr_hi b0 (k := 18) (by omega)
  have h2 : spr b0 34 = spr b0 18 + lowX (spr b0 19) + spr b0 27 + lowY (spr b0 32) := h
  have h3 : 2117632#32 + lowX 0#32 + 1711282176#32 + lowY 3287351444#32 = 109604294#32 := by kernel_rfl
  rw [h2, e18, e19, e27, e32, h3]
theorem e35 : spr b0 35 = 2742808854#32 := by
  have h := spr_hi b0 (k := 19) (by omega)
  have h2 : spr b0 35 = spr b0 19 + lowX (spr b0 20) + spr b0 28 + lowY (spr b0 33) := h
  have h3 : 0#32 + lowX 570427392#32 + 3592562048#32 + lowY 676112230#32 = 2742808854#32 := by kernel_rfl
  rw [h2, e19, e20, e28, e33, h3]
theorem e36 : spr b0 36 = 1904000662#32 := by
  have h := spr_hi b0 (k := 20) (by omega)
  have h2 : spr b0 36 = spr b0 20 + lowX (spr b0 21) + spr b0 29 + lowY (spr b0 34) := h
  have h3 : 570427392#32 + lowX 0#32 + 337794312#32 + lowY 109604294#32 = 1904000662#32 := by kernel_rfl
  rw [h2, e20, e21, e29, e34, h3]
theorem e37 : spr b0 37 = 4274181962#32 := by
  have h := spr_hi b0 (k := 21) (by omega)
  have h2 : spr b0 37 = spr b0 21 + lowX (spr b0 22) + spr b0 30 + lowY (spr b0 35) := h
  have h3 : 0#32 + lowX 84448578#32 + 3594910044#32 + lowY 2742808854#32 = 4274181962#32 := by kernel_rfl
  rw [h2, e21, e22, e30, e35, h3]
theorem e38 : spr b0 38 = 2813755136#32 := by
  have h := spr_hi b0 (k := 22) (by omega)
  have h2 : spr b0 38 = spr b0 22 + lowX (spr b0 23) + spr b0 31 + lowY (spr b0 36) := h
  have h3 : 84448578#32 + lowX 2147483648#32 + 3374850048#32 + lowY 1904000662#32 = 2813755136#32 := by kernel_rfl
  rw [h2, e22, e23, e31, e36, h3]
theorem e39 : spr b0 39 = 2165675682#32 := by
  have h := spr_hi b0 (k := 23) (by omega)
  have h2 : spr b0 39 = spr b0 23 + lowX (spr b0 24) + spr b0 32 + lowY (spr b0 37) := h
  have h3 : 2147483648#32 + lowX 1476919296#32 + 3287351444#32 + lowY 4274181962#32 = 2165675682#32 := by kernel_rfl
  rw [h2, e23, e24, e32, e37, h3]
theorem e40 : spr b0 40 = 2561075048#32 := by
  have h := spr_hi b0 (k := 24) (by omega)
  have h2 : spr b0 40 = spr b0 24 + lowX (spr b0 25) + spr b0 33 + lowY (spr b0 38) := h
  have h3 : 1476919296#32 + lowX 4235264#32 + 676112230#32 + lowY 2813755136#32 = 2561075048#32 := by kernel_rfl
  rw [h2, e24, e25, e33, e38, h3]
theorem e41 : spr b0 41 = 62000258#32 := by
  have h := spr_hi b0 (k := 25) (by omega)
  have h2 : spr b0 41 = spr b0 25 + lowX (spr b0 26) + spr b0 34 + lowY (spr b0 39) := h
  have h3 : 4235264#32 + lowX 1451269#32 + 109604294#32 + lowY 2165675682#32 = 62000258#32 := by kernel_rfl
  rw [h2, e25, e26, e34, e39, h3]
theorem e42 : spr b0 42 = 1562224585#32 := by
  have h := spr_hi b0 (k := 26) (by omega)
  have h2 : spr b0 42 = spr b0 26 + lowX (spr b0 27) + spr b0 35 + lowY (spr b0 40) := h
  have h3 : 1451269#32 + lowX 1711282176#32 + 2742808854#32 + lowY 2561075048#32 = 1562224585#32 := by kernel_rfl
  rw [h2, e26, e27, e35, e40, h3]
theorem e43 : spr b0 43 = 2975250741#32 := by
  have h := spr_hi b0 (k := 27) (by omega)
  have h2 : spr b0 43 = spr b0 27 + lowX (spr b0 28) + spr b0 36 + lowY (spr b0 41) := h
  have h3 : 1711282176#32 + lowX 3592562048#32 + 1904000662#32 + lowY 62000258#32 = 2975250741#32 := by kernel_rfl
  rw [h2, e27, e28, e36, e41, h3]
theorem e44 : spr b0 44 = 3286092305#32 := by
  have h := spr_hi b0 (k := 28) (by omega)
  have h2 : spr b0 44 = spr b0 28 + lowX (spr b0 29) + spr b0 37 + lowY (spr b0 42) := h
  have h3 : 3592562048#32 + lowX 337794312#32 + 4274181962#32 + lowY 1562224585#32 = 3286092305#32 := by kernel_rfl
  rw [h2, e28, e29, e37, e42, h3]
theorem e45 : spr b0 45 = 614207615#32 := by
  have h := spr_hi b0 (k := 29) (by omega)
  have h2 : spr b0 45 = spr b0 29 + lowX (spr b0 30) + spr b0 38 + lowY (spr b0 43) := h
  have h3 : 337794312#32 + lowX 3594910044#32 + 2813755136#32 + lowY 2975250741#32 = 614207615#32 := by kernel_rfl
  rw [h2, e29, e30, e38, e43, h3]
theorem e46 : spr b0 46 = 3297584367#32 := by
  have h := spr_hi b0 (k := 30) (by omega)
  have h2 : spr b0 46 = spr b0 30 + lowX (spr b0 31) + spr b0 39 + lowY (spr b0 44) := h
  have h3 : 3594910044#32 + lowX 3374850048#32 + 2165675682#32 + lowY 3286092305#32 = 3297584367#32 := by kernel_rfl
  rw [h2, e30, e31, e39, e44, h3]
theorem e47 : spr b0 47 = 1575308336#32 := by
  have h := spr_hi b0 (k := 31) (by omega)
  have h2 : spr b0 47 = spr b0 31 + lowX (spr b0 32) + spr b0 40 + lowY (spr b0 45) := h
  have h3 : 3374850048#32 + lowX 3287351444#32 + 2561075048#32 + lowY 614207615#32 = 1575308336#32 := by kernel_rfl
  rw [h2, e31, e32, e40, e45, h3]
theorem e48 : spr b0 48 = 3741240933#32 := by
  have h := spr_hi b0 (k := 32) (by omega)
  have h2 : spr b0 48 = spr b0 32 + lowX (spr b0 33) + spr b0 41 + lowY (spr b0 46) := h
  have h3 : 3287351444#32 + lowX 676112230#32 + 62000258#32 + lowY 3297584367#32 = 3741240933#32 := by kernel_rfl
  rw [h2, e32, e33, e41, e46, h3]
theorem e49 : spr b0 49 = 748767245#32 := by
  have h := spr_hi b0 (k := 33) (by omega)
  have h2 : spr b0 49 = spr b0 33 + lowX (spr b0 34) + spr b0 42 + lowY (spr b0 47) := h
  have h3 : 676112230#32 + lowX 109604294#32 + 1562224585#32 + lowY 1575308336#32 = 748767245#32 := by kernel_rfl
  rw [h2, e33, e34, e42, e47, h3]
theorem e50 : spr b0 50 = 1008022316#32 := by
  have h := spr_hi b0 (k := 34) (by omega)
  have h2 : spr b0 50 = spr b0 34 + lowX (spr b0 35) + spr b0 43 + lowY (spr b0 48) := h
  have h3 : 109604294#32 + lowX 2742808854#32 + 2975250741#32 + lowY 3741240933#32 = 1008022316#32 := by kernel_rfl
  rw [h2, e34, e35, e43, e48, h3]
theorem e51 : spr b0 51 = 30329261#32 := by
  have h := spr_hi b0 (k := 35) (by omega)
  have h2 : spr b0 51 = spr b0 35 + lowX (spr b0 36) + spr b0 44 + lowY (spr b0 49) := h
  have h3 : 2742808854#32 + lowX 1904000662#32 + 3286092305#32 + lowY 748767245#32 = 30329261#32 := by kernel_rfl
  rw [h2, e35, e36, e44, e49, h3]
theorem e52 : spr b0 52 = 369937616#32 := by
  have h := spr_hi b0 (k := 36) (by omega)
  have h2 : spr b0 52 = spr b0 36 + lowX (spr b0 37) + spr b0 45 + lowY (spr b0 50) := h
  have h3 : 1904000662#32 + lowX 4274181962#32 + 614207615#32 + lowY 1008022316#32 = 369937616#32 := by kernel_rfl
  rw [h2, e36, e37, e45, e50, h3]
theorem e53 : spr b0 53 = 195877528#32 := by
  have h := spr_hi b0 (k := 37) (by omega)
  have h2 : spr b0 53 = spr b0 37 + lowX (spr b0 38) + spr b0 46 + lowY (spr b0 51) := h
  have h3 : 4274181962#32 + lowX 2813755136#32 + 3297584367#32 + lowY 30329261#32 = 195877528#32 := by kernel_rfl
  rw [h2, e37, e38, e46, e51, h3]
theorem e54 : spr b0 54 = 907775968#32 := by
  have h := spr_hi b0 (k := 38) (by omega)
  have h2 : spr b0 54 = spr b0 38 + lowX (spr b0 39) + spr b0 47 + lowY (spr b0 52) := h
  have h3 : 2813755136#32 + lowX 2165675682#32 + 1575308336#32 + lowY 369937616#32 = 907775968#32 := by kernel_rfl
  rw [h2, e38, e39, e47, e52, h3]
theorem e55 : spr b0 55 = 3526495142#32 := by
  have h := spr_hi b0 (k := 39) (by omega)
  have h2 : spr b0 55 = spr b0 39 + lowX (spr b0 40) + spr b0 48 + lowY (spr b0 53) := h
  have h3 : 2165675682#32 + lowX 2561075048#32 + 3741240933#32 + lowY 195877528#32 = 3526495142#32 := by kernel_rfl
  rw [h2, e39, e40, e48, e53, h3]
theorem e56 : spr b0 56 = 43741191#32 := by
  have h := spr_hi b0 (k := 40) (by omega)
  have h2 : spr b0 56 = spr b0 40 + lowX (spr b0 41) + spr b0 49 + lowY (spr b0 54) := h
  have h3 : 2561075048#32 + lowX 62000258#32 + 748767245#32 + lowY 907775968#32 = 43741191#32 := by kernel_rfl
  rw [h2, e40, e41, e49, e54, h3]
theorem e57 : spr b0 57 = 1967544444#32 := by
  have h := spr_hi b0 (k := 41) (by omega)
  have h2 : spr b0 57 = spr b0 41 + lowX (spr b0 42) + spr b0 50 + lowY (spr b0 55) := h
  have h3 : 62000258#32 + lowX 1562224585#32 + 1008022316#32 + lowY 3526495142#32 = 1967544444#32 := by kernel_rfl
  rw [h2, e41, e42, e50, e55, h3]
theorem e58 : spr b0 58 = 133517113#32 := by
  have h := spr_hi b0 (k := 42) (by omega)
  have h2 : spr b0 58 = spr b0 42 + lowX (spr b0 43) + spr b0 51 + lowY (spr b0 56) := h
  have h3 : 1562224585#32 + lowX 2975250741#32 + 30329261#32 + lowY 43741191#32 = 133517113#32 := by kernel_rfl
  rw [h2, e42, e43, e51, e56, h3]
theorem e59 : spr b0 59 = 4161330627#32 := by
  have h := spr_hi b0 (k := 43) (by omega)
  have h2 : spr b0 59 = spr b0 43 + lowX (spr b0 44) + spr b0 52 + lowY (spr b0 57) := h
  have h3 : 2975250741#32 + lowX 3286092305#32 + 369937616#32 + lowY 1967544444#32 = 4161330627#32 := by kernel_rfl
  rw [h2, e43, e44, e52, e57, h3]
theorem e60 : spr b0 60 = 3704256008#32 := by
  have h := spr_hi b0 (k := 44) (by omega)
  have h2 : spr b0 60 = spr b0 44 + lowX (spr b0 45) + spr b0 53 + lowY (spr b0 58) := h
  have h3 : 3286092305#32 + lowX 614207615#32 + 195877528#32 + lowY 133517113#32 = 3704256008#32 := by kernel_rfl
  rw [h2, e44, e45, e53, e58, h3]
theorem e61 : spr b0 61 = 1581412744#32 := by
  have h := spr_hi b0 (k := 45) (by omega)
  have h2 : spr b0 61 = spr b0 45 + lowX (spr b0 46) + spr b0 54 + lowY (spr b0 59) := h
  have h3 : 614207615#32 + lowX 3297584367#32 + 907775968#32 + lowY 4161330627#32 = 1581412744#32 := by kernel_rfl
  rw [h2, e45, e46, e54, e59, h3]
theorem e62 : spr b0 62 = 1153231965#32 := by
  have h := spr_hi b0 (k := 46) (by omega)
  have h2 : spr b0 62 = spr b0 46 + lowX (spr b0 47) + spr b0 55 + lowY (spr b0 60) := h
  have h3 : 3297584367#32 + lowX 1575308336#32 + 3526495142#32 + lowY 3704256008#32 = 1153231965#32 := by kernel_rfl
  rw [h2, e46, e47, e55, e60, h3]
theorem e63 : spr b0 63 = 996066459#32 := by
  have h := spr_hi b0 (k := 47) (by omega)
  have h2 : spr b0 63 = spr b0 47 + lowX (spr b0 48) + spr b0 56 + lowY (spr b0 61) := h
  have h3 : 1575308336#32 + lowX 3741240933#32 + 43741191#32 + lowY 1581412744#32 = 996066459#32 := by kernel_rfl
  rw [h2, e47, e48, e56, e61, h3]
theorem f0 : vF firstF b0 0 = st8 1779033703#32 3144134277#32 1013904242#32 2773480762#32 1359893119#32 2600822924#32 528734635#32 1541459225#32 := rfl
theorem f1 : vF firstF b0 1 = st8 2080933965#32 1779033703#32 3144134277#32 1013904242#32 415752866#32 1359893119#32 2600822924#32 528734635#32 := by
  show stepF (vF firstF b0 0) (num 0 + spr b0 0) = _
  have h3 : stepF (st8 1779033703#32 3144134277#32 1013904242#32 2773480762#32 1359893119#32 2600822924#32 528734635#32 1541459225#32) (num 0 + 2147483648#32) = st8 2080933965#32 1779033703#32 3144134277#32 1013904242#32 415752866#32 1359893119#32 2600822924#32 528734635#32 := by kernel_rfl
  rw [f0, e0, h3]
theorem f2 : vF firstF b0 2 = st8 2632279248#32 2080933965#32 1779033703#32 3144134277#32 536982102#32 415752866#32 1359893119#32 2600822924#32 := by
  show stepF (vF firstF b0 1) (num 1 + spr b0 1) = _
  have h3 : stepF (st8 2080933965#32 1779033703#32 3144134277#32 1013904242#32 415752866#32 1359893119#32 2600822924#32 528734635#32) (num 1 + 0#32) = st8 2632279248#32 2080933965#32 1779033703#32 3144134277#32 536982102#32 415752866#32 1359893119#32 2600822924#32 := by kernel_rfl
  rw [f1, e1, h3]
theorem f3 : vF firstF b0 3 = st8 3299628326#32 2632279248#32 2080933965#32 1779033703#32 1876632314#32 536982102#32 415752866#32 1359893119#32 := by
  show stepF (vF firstF b0 2) (num 2 + spr b0 2) = _
  have h3 : stepF (st8 2632279248#32 2080933965#32 1779033703#32 3144134277#32 536982102#32 415752866#32 1359893119#32 2600822924#32) (num 2 + 0#32) = st8 3299628326#32 2632279248#32 2080933965#32 1779033703#32 1876632314#32 536982102#32 415752866#32 1359893119#32 := by kernel_rfl
  rw [f2, e2, h3]
theorem f4 : vF firstF b0 4 = st8 1277422283#32 3299628326#32 2632279248#32 2080933965#32 808968629#32 1876632314#32 536982102#32 415752866#32 := by
  show stepF (vF firstF b0 3) (num 3 + spr b0 3) = _
  have h3 : stepF (st8 3299628326#32 2632279248#32 2080933965#32 1779033703#32 1876632314#32 536982102#32 415752866#32 1359893119#32) (num 3 + 0#32) = st8 1277422283#32 3299628326#32 2632279248#32 2080933965#32 808968629#32 1876632314#32 536982102#32 415752866#32 := by kernel_rfl
  rw [f3, e3, h3]
theorem f5 : vF firstF b0 5 = st8 1130821424#32 1277422283#32 3299628326#32 2632279248#32 3889194014#32 808968629#32 1876632314#32 536982102#32 := by
  show stepF (vF firstF b0 4) (num 4 + spr b0 4) = _
  have h3 : stepF (st8 1277422283#32 3299628326#32 2632279248#32 2080933965#32 808968629#32 1876632314#32 536982102#32 415752866#32) (num 4 + 0#32) = st8 1130821424#32 1277422283#32 3299628326#32 2632279248#32 3889194014#32 808968629#32 1876632314#32 536982102#32 := by kernel_rfl
  rw [f4, e4, h3]
theorem f6 : vF firstF b0 6 = st8 690895682#32 1130821424#32 1277422283#32 3299628326#32 1332035834#32 3889194014#32 808968629#32 1876632314#32 := by
  show stepF (vF firstF b0 5) (num 5 + spr b0 5) = _
  have h3 : stepF (st8 1130821424#32 1277422283#32 3299628326#32 2632279248#32 3889194014#32 808968629#32 1876632314#32 536982102#32) (num 5 + 0#32) = st8 690895682#32 1130821424#32 1277422283#32 3299628326#32 1332035834#32 3889194014#32 808968629#32 1876632314#32 := by kernel_rfl
  rw [f5, e5, h3]
theorem f7 : vF firstF b0 7 = st8 4028650896#32 690895682#32 1130821424#32 1277422283#32 2196627567#32 1332035834#32 3889194014#32 808968629#32 := by
  show stepF (vF firstF b0 6) (num 6 + spr b0 6) = _
  have h3 : stepF (st8 690895682#32 1130821424#32 1277422283#32 3299628326#32 1332035834#32 3889194014#32 808968629#32 1876632314#32) (num 6 + 0#32) = st8 4028650896#32 690895682#32 1130821424#32 1277422283#32 2196627567#32 1332035834#32 3889194014#32 808968629#32 := by kernel_rfl
  rw [f6, e6, h3]
theorem f8 : vF firstF b0 8 = st8 2060825014#32 4028650896#32 690895682#32 1130821424#32 1408847307#32 2196627567#32 1332035834#32 3889194014#32 := by
  show stepF (vF firstF b0 7) (num 7 + spr b0 7) = _
  have h3 : stepF (st8 4028650896#32 690895682#32 1130821424#32 1277422283#32 2196627567#32 1332035834#32 3889194014#32 808968629#32) (num 7 + 0#32) = st8 2060825014#32 4028650896#32 690895682#32 1130821424#32 1408847307#32 2196627567#32 1332035834#32 3889194014#32 := by kernel_rfl
  rw [f7, e7, h3]
theorem f9 : vF firstF b0 9 = st8 4113392549#32 2060825014#32 4028650896#32 690895682#32 2058339864#32 1408847307#32 2196627567#32 1332035834#32 := by
  show stepF (vF firstF b0 8) (num 8 + spr b0 8) = _
  have h3 : stepF (st8 2060825014#32 4028650896#32 690895682#32 1130821424#32 1408847307#32 2196627567#32 1332035834#32 3889194014#32) (num 8 + 0#32) = st8 4113392549#32 2060825014#32 4028650896#32 690895682#32 2058339864#32 1408847307#32 2196627567#32 1332035834#32 := by kernel_rfl
  rw [f8, e8, h3]
theorem f10 : vF firstF b0 10 = st8 4025007953#32 4113392549#32 2060825014#32 4028650896#32 1392976521#32 2058339864#32 1408847307#32 2196627567#32 := by
  show stepF (vF firstF b0 9) (num 9 + spr b0 9) = _
  have h3 : stepF (st8 4113392549#32 2060825014#32 4028650896#32 690895682#32 2058339864#32 1408847307#32 2196627567#32 1332035834#32) (num 9 + 0#32) = st8 4025007953#32 4113392549#32 2060825014#32 4028650896#32 1392976521#32 2058339864#32 1408847307#32 2196627567#32 := by kernel_rfl
  rw [f9, e9, h3]
theorem f11 : vF firstF b0 11 = st8 361478433#32 4025007953#32 4113392549#32 2060825014#32 3795207118#32 1392976521#32 2058339864#32 1408847307#32 := by
  show stepF (vF firstF b0 10) (num 10 + spr b0 10) = _
  have h3 : stepF (st8 4025007953#32 4113392549#32 2060825014#32 4028650896#32 1392976521#32 2058339864#32 1408847307#32 2196627567#32) (num 10 + 0#32) = st8 361478433#32 4025007953#32 4113392549#32 2060825014#32 3795207118#32 1392976521#32 2058339864#32 1408847307#32 := by kernel_rfl
  rw [f10, e10, h3]
theorem f12 : vF firstF b0 12 = st8 4114828352#32 361478433#32 4025007953#32 4113392549#32 3621813394#32 3795207118#32 1392976521#32 2058339864#32 := by
  show stepF (vF firstF b0 11) (num 11 + spr b0 11) = _
  have h3 : stepF (st8 361478433#32 4025007953#32 4113392549#32 2060825014#32 3795207118#32 1392976521#32 2058339864#32 1408847307#32) (num 11 + 0#32) = st8 4114828352#32 361478433#32 4025007953#32 4113392549#32 3621813394#32 3795207118#32 1392976521#32 2058339864#32 := by kernel_rfl
  rw [f11, e11, h3]
theorem f13 : vF firstF b0 13 = st8 553833165#32 4114828352#32 361478433#32 4025007953#32 3455974994#32 3621813394#32 3795207118#32 1392976521#32 := by
  show stepF (vF firstF b0 12) (num 12 + spr b0 12) = _
  have h3 : stepF (st8 4114828352#32 361478433#32 4025007953#32 4113392549#32 3621813394#32 3795207118#32 1392976521#32 2058339864#32) (num 12 + 0#32) = st8 553833165#32 4114828352#32 361478433#32 4025007953#32 3455974994#32 3621813394#32 3795207118#32 1392976521#32 := by kernel_rfl
  rw [f12, e12, h3]
theorem f14 : vF firstF b0 14 = st8 1170215847#32 553833165#32 4114828352#32 361478433#32 725774998#32 3455974994#32 3621813394#32 3795207118#32 := by
  show stepF (vF firstF b0 13) (num 13 + spr b0 13) = _
  have h3 : stepF (st8 553833165#32 4114828352#32 361478433#32 4025007953#32 3455974994#32 3621813394#32 3795207118#32 1392976521#32) (num 13 + 0#32) = st8 1170215847#32 553833165#32 4114828352#32 361478433#32 725774998#32 3455974994#32 3621813394#32 3795207118#32 := by kernel_rfl
  rw [f13, e13, h3]
theorem f15 : vF firstF b0 15 = st8 3096116699#32 1170215847#32 553833165#32 4114828352#32 483372089#32 725774998#32 3455974994#32 3621813394#32 := by
  show stepF (vF firstF b0 14) (num 14 + spr b0 14) = _
  have h3 : stepF (st8 1170215847#32 553833165#32 4114828352#32 361478433#32 725774998#32 3455974994#32 3621813394#32 3795207118#32) (num 14 + 0#32) = st8 3096116699#32 1170215847#32 553833165#32 4114828352#32 483372089#32 725774998#32 3455974994#32 3621813394#32 := by kernel_rfl
  rw [f14, e14, h3]
theorem f16 : vF firstF b0 16 = st8 3019933109#32 3096116699#32 1170215847#32 553833165#32 1555621987#32 483372089#32 725774998#32 3455974994#32 := by
  show stepF (vF firstF b0 15) (num 15 + spr b0 15) = _
  have h3 : stepF (st8 3096116699#32 1170215847#32 553833165#32 4114828352#32 483372089#32 725774998#32 3455974994#32 3621813394#32) (num 15 + 0#32) = st8 3019933109#32 3096116699#32 1170215847#32 553833165#32 1555621987#32 483372089#32 725774998#32 3455974994#32 := by kernel_rfl
  rw [f15, e15, h3]
theorem f17 : vF firstF b0 17 = st8 1192056138#32 3019933109#32 3096116699#32 1170215847#32 1892956839#32 1555621987#32 483372089#32 725774998#32 := by
  show stepF (vF firstF b0 16) (num 16 + spr b0 16) = _
  have h3 : stepF (st8 3019933109#32 3096116699#32 1170215847#32 553833165#32 1555621987#32 483372089#32 725774998#32 3455974994#32) (num 16 + 2147483648#32) = st8 1192056138#32 3019933109#32 3096116699#32 1170215847#32 1892956839#32 1555621987#32 483372089#32 725774998#32 := by kernel_rfl
  rw [f16, e16, h3]
theorem f18 : vF firstF b0 18 = st8 3717831211#32 1192056138#32 3019933109#32 3096116699#32 1619825619#32 1892956839#32 1555621987#32 483372089#32 := by
  show stepF (vF firstF b0 17) (num 17 + spr b0 17) = _
  have h3 : stepF (st8 1192056138#32 3019933109#32 3096116699#32 1170215847#32 1892956839#32 1555621987#32 483372089#32 725774998#32) (num 17 + 0#32) = st8 3717831211#32 1192056138#32 3019933109#32 3096116699#32 1619825619#32 1892956839#32 1555621987#32 483372089#32 := by kernel_rfl
  rw [f17, e17, h3]
theorem f19 : vF firstF b0 19 = st8 812095850#32 3717831211#32 1192056138#32 3019933109#32 3550010602#32 1619825619#32 1892956839#32 1555621987#32 := by
  show stepF (vF firstF b0 18) (num 18 + spr b0 18) = _
  have h3 : stepF (st8 3717831211#32 1192056138#32 3019933109#32 3096116699#32 1619825619#32 1892956839#32 1555621987#32 483372089#32) (num 18 + 2117632#32) = st8 812095850#32 3717831211#32 1192056138#32 3019933109#32 3550010602#32 1619825619#32 1892956839#32 1555621987#32 := by kernel_rfl
  rw [f18, e18, h3]
theorem f20 : vF firstF b0 20 = st8 172493064#32 812095850#32 3717831211#32 1192056138#32 2416781228#32 3550010602#32 1619825619#32 1892956839#32 := by
  show stepF (vF firstF b0 19) (num 19 + spr b0 19) = _
  have h3 : stepF (st8 812095850#32 3717831211#32 1192056138#32 3019933109#32 3550010602#32 1619825619#32 1892956839#32 1555621987#32) (num 19 + 0#32) = st8 172493064#32 812095850#32 3717831211#32 1192056138#32 2416781228#32 3550010602#32 1619825619#32 1892956839#32 := by kernel_rfl
  rw [f19, e19, h3]
theorem f21 : vF firstF b0 21 = st8 1976037592#32 172493064#32 812095850#32 3717831211#32 966081741#32 2416781228#32 3550010602#32 1619825619#32 := by
  show stepF (vF firstF b0 20) (num 20 + spr b0 20) = _
  have h3 : stepF (st8 172493064#32 812095850#32 3717831211#32 1192056138#32 2416781228#32 3550010602#32 1619825619#32 1892956839#32) (num 20 + 570427392#32) = st8 1976037592#32 172493064#32 812095850#32 3717831211#32 966081741#32 2416781228#32 3550010602#32 1619825619#32 := by kernel_rfl
  rw [f20, e20, h3]
theorem f22 : vF firstF b0 22 = st8 2577845017#32 1976037592#32 172493064#32 812095850#32 3263666206#32 966081741#32 2416781228#32 3550010602#32 := by
  show stepF (vF firstF b0 21) (num 21 + spr b0 21) = _
  have h3 : stepF (st8 1976037592#32 172493064#32 812095850#32 3717831211#32 966081741#32 2416781228#32 3550010602#32 1619825619#32) (num 21 + 0#32) = st8 2577845017#32 1976037592#32 172493064#32 812095850#32 3263666206#32 966081741#32 2416781228#32 3550010602#32 := by kernel_rfl
  rw [f21, e21, h3]
theorem f23 : vF firstF b0 23 = st8 1078820948#32 2577845017#32 1976037592#32 172493064#32 2976200464#32 3263666206#32 966081741#32 2416781228#32 := by
  show stepF (vF firstF b0 22) (num 22 + spr b0 22) = _
  have h3 : stepF (st8 2577845017#32 1976037592#32 172493064#32 812095850#32 3263666206#32 966081741#32 2416781228#32 3550010602#32) (num 22 + 84448578#32) = st8 1078820948#32 2577845017#32 1976037592#32 172493064#32 2976200464#32 3263666206#32 966081741#32 2416781228#32 := by kernel_rfl
  rw [f22, e22, h3]
theorem f24 : vF firstF b0 24 = st8 2556161365#32 1078820948#32 2577845017#32 1976037592#32 741081741#32 2976200464#32 3263666206#32 966081741#32 := by
  show stepF (vF firstF b0 23) (num 23 + spr b0 23) = _
  have h3 : stepF (st8 1078820948#32 2577845017#32 1976037592#32 172493064#32 2976200464#32 3263666206#32 966081741#32 2416781228#32) (num 23 + 2147483648#32) = st8 2556161365#32 1078820948#32 2577845017#32 1976037592#32 741081741#32 2976200464#32 3263666206#32 966081741#32 := by kernel_rfl
  rw [f23, e23, h3]
theorem f25 : vF firstF b0 25 = st8 2062996621#32 2556161365#32 1078820948#32 2577845017#32 4116679717#32 741081741#32 2976200464#32 3263666206#32 := by
  show stepF (vF firstF b0 24) (num 24 + spr b0 24) = _
  have h3 : stepF (st8 2556161365#32 1078820948#32 2577845017#32 1976037592#32 741081741#32 2976200464#32 3263666206#32 966081741#32) (num 24 + 1476919296#32) = st8 2062996621#32 2556161365#32 1078820948#32 2577845017#32 4116679717#32 741081741#32 2976200464#32 3263666206#32 := by kernel_rfl
  rw [f24, e24, h3]
theorem f26 : vF firstF b0 26 = st8 3317175470#32 2062996621#32 2556161365#32 1078820948#32 3850028020#32 4116679717#32 741081741#32 2976200464#32 := by
  show stepF (vF firstF b0 25) (num 25 + spr b0 25) = _
  have h3 : stepF (st8 2062996621#32 2556161365#32 1078820948#32 2577845017#32 4116679717#32 741081741#32 2976200464#32 3263666206#32) (num 25 + 4235264#32) = st8 3317175470#32 2062996621#32 2556161365#32 1078820948#32 3850028020#32 4116679717#32 741081741#32 2976200464#32 := by kernel_rfl
  rw [f25, e25, h3]
theorem f27 : vF firstF b0 27 = st8 747317945#32 3317175470#32 2062996621#32 2556161365#32 2677228163#32 3850028020#32 4116679717#32 741081741#32 := by
  show stepF (vF firstF b0 26) (num 26 + spr b0 26) = _
  have h3 : stepF (st8 3317175470#32 2062996621#32 2556161365#32 1078820948#32 3850028020#32 4116679717#32 741081741#32 2976200464#32) (num 26 + 1451269#32) = st8 747317945#32 3317175470#32 2062996621#32 2556161365#32 2677228163#32 3850028020#32 4116679717#32 741081741#32 := by kernel_rfl
  rw [f26, e26, h3]
theorem f28 : vF firstF b0 28 = st8 1837942423#32 747317945#32 3317175470#32 2062996621#32 1726829818#32 2677228163#32 3850028020#32 4116679717#32 := by
  show stepF (vF firstF b0 27) (num 27 + spr b0 27) = _
  have h3 : stepF (st8 747317945#32 3317175470#32 2062996621#32 2556161365#32 2677228163#32 3850028020#32 4116679717#32 741081741#32) (num 27 + 1711282176#32) = st8 1837942423#32 747317945#32 3317175470#32 2062996621#32 1726829818#32 2677228163#32 3850028020#32 4116679717#32 := by kernel_rfl
  rw [f27, e27, h3]
theorem f29 : vF firstF b0 29 = st8 1690082844#32 1837942423#32 747317945#32 3317175470#32 2506713973#32 1726829818#32 2677228163#32 3850028020#32 := by
  show stepF (vF firstF b0 28) (num 28 + spr b0 28) = _
  have h3 : stepF (st8 1837942423#32 747317945#32 3317175470#32 2062996621#32 1726829818#32 2677228163#32 3850028020#32 4116679717#32) (num 28 + 3592562048#32) = st8 1690082844#32 1837942423#32 747317945#32 3317175470#32 2506713973#32 1726829818#32 2677228163#32 3850028020#32 := by kernel_rfl
  rw [f28, e28, h3]
theorem f30 : vF firstF b0 30 = st8 1926471693#32 1690082844#32 1837942423#32 747317945#32 2957685293#32 2506713973#32 1726829818#32 2677228163#32 := by
  show stepF (vF firstF b0 29) (num 29 + spr b0 29) = _
  have h3 : stepF (st8 1690082844#32 1837942423#32 747317945#32 3317175470#32 2506713973#32 1726829818#32 2677228163#32 3850028020#32) (num 29 + 337794312#32) = st8 1926471693#32 1690082844#32 1837942423#32 747317945#32 2957685293#32 2506713973#32 1726829818#32 2677228163#32 := by kernel_rfl
  rw [f29, e29, h3]
theorem f31 : vF firstF b0 31 = st8 2696613087#32 1926471693#32 1690082844#32 1837942423#32 1447716390#32 2957685293#32 2506713973#32 1726829818#32 := by
  show stepF (vF firstF b0 30) (num 30 + spr b0 30) = _
  have h3 : stepF (st8 1926471693#32 1690082844#32 1837942423#32 747317945#32 2957685293#32 2506713973#32 1726829818#32 2677228163#32) (num 30 + 3594910044#32) = st8 2696613087#32 1926471693#32 1690082844#32 1837942423#32 1447716390#32 2957685293#32 2506713973#32 1726829818#32 := by kernel_rfl
  rw [f30, e30, h3]
theorem f32 : vF firstF b0 32 = st8 300352095#32 2696613087#32 1926471693#32 1690082844#32 3151463532#32 1447716390#32 2957685293#32 2506713973#32 := by
  show stepF (vF firstF b0 31) (num 31 + spr b0 31) = _
  have h3 : stepF (st8 2696613087#32 1926471693#32 1690082844#32 1837942423#32 1447716390#32 2957685293#32 2506713973#32 1726829818#32) (num 31 + 3374850048#32) = st8 300352095#32 2696613087#32 1926471693#32 1690082844#32 3151463532#32 1447716390#32 2957685293#32 2506713973#32 := by kernel_rfl
  rw [f31, e31, h3]
theorem f33 : vF firstF b0 33 = st8 3817927606#32 300352095#32 2696613087#32 1926471693#32 3436338571#32 3151463532#32 1447716390#32 2957685293#32 := by
  show stepF (vF firstF b0 32) (num 32 + spr b0 32) = _
  have h3 : stepF (st8 300352095#32 2696613087#32 1926471693#32 1690082844#32 3151463532#32 1447716390#32 2957685293#32 2506713973#32) (num 32 + 3287351444#32) = st8 3817927606#32 300352095#32 2696613087#32 1926471693#32 3436338571#32 3151463532#32 1447716390#32 2957685293#32 := by kernel_rfl
  rw [f32, e32, h3]
theorem f34 : vF firstF b0 34 = st8 2705438357#32 3817927606#32 300352095#32 2696613087#32 197416927#32 3436338571#32 3151463532#32 1447716390#32 := by
  show stepF (vF firstF b0 33) (num 33 + spr b0 33) = _
  have h3 : stepF (st8 3817927606#32 300352095#32 2696613087#32 1926471693#32 3436338571#32 3151463532#32 1447716390#32 2957685293#32) (num 33 + 676112230#32) = st8 2705438357#32 3817927606#32 300352095#32 2696613087#32 197416927#32 3436338571#32 3151463532#32 1447716390#32 := by kernel_rfl
  rw [f33, e33, h3]
theorem f35 : vF firstF b0 35 = st8 1151435175#32 2705438357#32 3817927606#32 300352095#32 1769188034#32 197416927#32 3436338571#32 3151463532#32 := by
  show stepF (vF firstF b0 34) (num 34 + spr b0 34) = _
  have h3 : stepF (st8 2705438357#32 3817927606#32 300352095#32 2696613087#32 197416927#32 3436338571#32 3151463532#32 1447716390#32) (num 34 + 109604294#32) = st8 1151435175#32 2705438357#32 3817927606#32 300352095#32 1769188034#32 197416927#32 3436338571#32 3151463532#32 := by kernel_rfl
  rw [f34, e34, h3]
theorem f36 : vF firstF b0 36 = st8 1679812728#32 1151435175#32 2705438357#32 3817927606#32 980442793#32 1769188034#32 197416927#32 3436338571#32 := by
  show stepF (vF firstF b0 35) (num 35 + spr b0 35) = _
  have h3 : stepF (st8 1151435175#32 2705438357#32 3817927606#32 300352095#32 1769188034#32 197416927#32 3436338571#32 3151463532#32) (num 35 + 2742808854#32) = st8 1679812728#32 1151435175#32 2705438357#32 3817927606#32 980442793#32 1769188034#32 197416927#32 3436338571#32 := by kernel_rfl
  rw [f35, e35, h3]
theorem f37 : vF firstF b0 37 = st8 2694206301#32 1679812728#32 1151435175#32 2705438357#32 4206914285#32 980442793#32 1769188034#32 197416927#32 := by
  show stepF (vF firstF b0 36) (num 36 + spr b0 36) = _
  have h3 : stepF (st8 1679812728#32 1151435175#32 2705438357#32 3817927606#32 980442793#32 1769188034#32 197416927#32 3436338571#32) (num 36 + 1904000662#32) = st8 2694206301#32 1679812728#32 1151435175#32 2705438357#32 4206914285#32 980442793#32 1769188034#32 197416927#32 := by kernel_rfl
  rw [f36, e36, h3]
theorem f38 : vF firstF b0 38 = st8 1457773646#32 2694206301#32 1679812728#32 1151435175#32 3892832895#32 4206914285#32 980442793#32 1769188034#32 := by
  show stepF (vF firstF b0 37) (num 37 + spr b0 37) = _
  have h3 : stepF (st8 2694206301#32 1679812728#32 1151435175#32 2705438357#32 4206914285#32 980442793#32 1769188034#32 197416927#32) (num 37 + 4274181962#32) = st8 1457773646#32 2694206301#32 1679812728#32 1151435175#32 3892832895#32 4206914285#32 980442793#32 1769188034#32 := by kernel_rfl
  rw [f37, e37, h3]
theorem f39 : vF firstF b0 39 = st8 2656625711#32 1457773646#32 2694206301#32 1679812728#32 2242319396#32 3892832895#32 4206914285#32 980442793#32 := by
  show stepF (vF firstF b0 38) (num 38 + spr b0 38) = _
  have h3 : stepF (st8 1457773646#32 2694206301#32 1679812728#32 1151435175#32 3892832895#32 4206914285#32 980442793#32 1769188034#32) (num 38 + 2813755136#32) = st8 2656625711#32 1457773646#32 2694206301#32 1679812728#32 2242319396#32 3892832895#32 4206914285#32 980442793#32 := by kernel_rfl
  rw [f38, e38, h3]
theorem f40 : vF firstF b0 40 = st8 1234768305#32 2656625711#32 1457773646#32 2694206301#32 1902882853#32 2242319396#32 3892832895#32 4206914285#32 := by
  show stepF (vF firstF b0 39) (num 39 + spr b0 39) = _
  have h3 : stepF (st8 2656625711#32 1457773646#32 2694206301#32 1679812728#32 2242319396#32 3892832895#32 4206914285#32 980442793#32) (num 39 + 2165675682#32) = st8 1234768305#32 2656625711#32 1457773646#32 2694206301#32 1902882853#32 2242319396#32 3892832895#32 4206914285#32 := by kernel_rfl
  rw [f39, e39, h3]
theorem f41 : vF firstF b0 41 = st8 4270245939#32 1234768305#32 2656625711#32 1457773646#32 2224585183#32 1902882853#32 2242319396#32 3892832895#32 := by
  show stepF (vF firstF b0 40) (num 40 + spr b0 40) = _
  have h3 : stepF (st8 1234768305#32 2656625711#32 1457773646#32 2694206301#32 1902882853#32 2242319396#32 3892832895#32 4206914285#32) (num 40 + 2561075048#32) = st8 4270245939#32 1234768305#32 2656625711#32 1457773646#32 2224585183#32 1902882853#32 2242319396#32 3892832895#32 := by kernel_rfl
  rw [f40, e40, h3]
theorem f42 : vF firstF b0 42 = st8 580450446#32 4270245939#32 1234768305#32 2656625711#32 4123364073#32 2224585183#32 1902882853#32 2242319396#32 := by
  show stepF (vF firstF b0 41) (num 41 + spr b0 41) = _
  have h3 : stepF (st8 4270245939#32 1234768305#32 2656625711#32 1457773646#32 2224585183#32 1902882853#32 2242319396#32 3892832895#32) (num 41 + 62000258#32) = st8 580450446#32 4270245939#32 1234768305#32 2656625711#32 4123364073#32 2224585183#32 1902882853#32 2242319396#32 := by kernel_rfl
  rw [f41, e41, h3]
theorem f43 : vF firstF b0 43 = st8 3686090155#32 580450446#32 4270245939#32 1234768305#32 3762306745#32 4123364073#32 2224585183#32 1902882853#32 := by
  show stepF (vF firstF b0 42) (num 42 + spr b0 42) = _
  have h3 : stepF (st8 580450446#32 4270245939#32 1234768305#32 2656625711#32 4123364073#32 2224585183#32 1902882853#32 2242319396#32) (num 42 + 1562224585#32) = st8 3686090155#32 580450446#32 4270245939#32 1234768305#32 3762306745#32 4123364073#32 2224585183#32 1902882853#32 := by kernel_rfl
  rw [f42, e42, h3]
theorem f44 : vF firstF b0 44 = st8 3907209042#32 3686090155#32 580450446#32 4270245939#32 692219050#32 3762306745#32 4123364073#32 2224585183#32 := by
  show stepF (vF firstF b0 43) (num 43 + spr b0 43) = _
  have h3 : stepF (st8 3686090155#32 580450446#32 4270245939#32 1234768305#32 3762306745#32 4123364073#32 2224585183#32 1902882853#32) (num 43 + 2975250741#32) = st8 3907209042#32 3686090155#32 580450446#32 4270245939#32 692219050#32 3762306745#32 4123364073#32 2224585183#32 := by kernel_rfl
  rw [f43, e43, h3]
theorem f45 : vF firstF b0 45 = st8 2752082644#32 3907209042#32 3686090155#32 580450446#32 2855016464#32 692219050#32 3762306745#32 4123364073#32 := by
  show stepF (vF firstF b0 44) (num 44 + spr b0 44) = _
  have h3 : stepF (st8 3907209042#32 3686090155#32 580450446#32 4270245939#32 692219050#32 3762306745#32 4123364073#32 2224585183#32) (num 44 + 3286092305#32) = st8 2752082644#32 3907209042#32 3686090155#32 580450446#32 2855016464#32 692219050#32 3762306745#32 4123364073#32 := by kernel_rfl
  rw [f44, e44, h3]
theorem f46 : vF firstF b0 46 = st8 855262251#32 2752082644#32 3907209042#32 3686090155#32 3531982457#32 2855016464#32 692219050#32 3762306745#32 := by
  show stepF (vF firstF b0 45) (num 45 + spr b0 45) = _
  have h3 : stepF (st8 2752082644#32 3907209042#32 3686090155#32 580450446#32 2855016464#32 692219050#32 3762306745#32 4123364073#32) (num 45 + 614207615#32) = st8 855262251#32 2752082644#32 3907209042#32 3686090155#32 3531982457#32 2855016464#32 692219050#32 3762306745#32 := by kernel_rfl
  rw [f45, e45, h3]
theorem f47 : vF firstF b0 47 = st8 1419259244#32 855262251#32 2752082644#32 3907209042#32 2322236082#32 3531982457#32 2855016464#32 692219050#32 := by
  show stepF (vF firstF b0 46) (num 46 + spr b0 46) = _
  have h3 : stepF (st8 855262251#32 2752082644#32 3907209042#32 3686090155#32 3531982457#32 2855016464#32 692219050#32 3762306745#32) (num 46 + 3297584367#32) = st8 1419259244#32 855262251#32 2752082644#32 3907209042#32 2322236082#32 3531982457#32 2855016464#32 692219050#32 := by kernel_rfl
  rw [f46, e46, h3]
theorem f48 : vF firstF b0 48 = st8 911881421#32 1419259244#32 855262251#32 2752082644#32 3417569515#32 2322236082#32 3531982457#32 2855016464#32 := by
  show stepF (vF firstF b0 47) (num 47 + spr b0 47) = _
  have h3 : stepF (st8 1419259244#32 855262251#32 2752082644#32 3907209042#32 2322236082#32 3531982457#32 2855016464#32 692219050#32) (num 47 + 1575308336#32) = st8 911881421#32 1419259244#32 855262251#32 2752082644#32 3417569515#32 2322236082#32 3531982457#32 2855016464#32 := by kernel_rfl
  rw [f47, e47, h3]
theorem f49 : vF firstF b0 49 = st8 1655188062#32 911881421#32 1419259244#32 855262251#32 1286303114#32 3417569515#32 2322236082#32 3531982457#32 := by
  show stepF (vF firstF b0 48) (num 48 + spr b0 48) = _
  have h3 : stepF (st8 911881421#32 1419259244#32 855262251#32 2752082644#32 3417569515#32 2322236082#32 3531982457#32 2855016464#32) (num 48 + 3741240933#32) = st8 1655188062#32 911881421#32 1419259244#32 855262251#32 1286303114#32 3417569515#32 2322236082#32 3531982457#32 := by kernel_rfl
  rw [f48, e48, h3]
theorem f50 : vF firstF b0 50 = st8 2543384045#32 1655188062#32 911881421#32 1419259244#32 3909789552#32 1286303114#32 3417569515#32 2322236082#32 := by
  show stepF (vF firstF b0 49) (num 49 + spr b0 49) = _
  have h3 : stepF (st8 1655188062#32 911881421#32 1419259244#32 855262251#32 1286303114#32 3417569515#32 2322236082#32 3531982457#32) (num 49 + 748767245#32) = st8 2543384045#32 1655188062#32 911881421#32 1419259244#32 3909789552#32 1286303114#32 3417569515#32 2322236082#32 := by kernel_rfl
  rw [f49, e49, h3]
theorem f51 : vF firstF b0 51 = st8 3244542753#32 2543384045#32 1655188062#32 911881421#32 906398686#32 3909789552#32 1286303114#32 3417569515#32 := by
  show stepF (vF firstF b0 50) (num 50 + spr b0 50) = _
  have h3 : stepF (st8 2543384045#32 1655188062#32 911881421#32 1419259244#32 3909789552#32 1286303114#32 3417569515#32 2322236082#32) (num 50 + 1008022316#32) = st8 3244542753#32 2543384045#32 1655188062#32 911881421#32 906398686#32 3909789552#32 1286303114#32 3417569515#32 := by kernel_rfl
  rw [f50, e50, h3]
theorem f52 : vF firstF b0 52 = st8 3579709122#32 3244542753#32 2543384045#32 1655188062#32 2710884687#32 906398686#32 3909789552#32 1286303114#32 := by
  show stepF (vF firstF b0 51) (num 51 + spr b0 51) = _
  have h3 : stepF (st8 3244542753#32 2543384045#32 1655188062#32 911881421#32 906398686#32 3909789552#32 1286303114#32 3417569515#32) (num 51 + 30329261#32) = st8 3579709122#32 3244542753#32 2543384045#32 1655188062#32 2710884687#32 906398686#32 3909789552#32 1286303114#32 := by kernel_rfl
  rw [f51, e51, h3]
theorem f53 : vF firstF b0 53 = st8 2981272720#32 3579709122#32 3244542753#32 2543384045#32 1134943992#32 2710884687#32 906398686#32 3909789552#32 := by
  show stepF (vF firstF b0 52) (num 52 + spr b0 52) = _
  have h3 : stepF (st8 3579709122#32 3244542753#32 2543384045#32 1655188062#32 2710884687#32 906398686#32 3909789552#32 1286303114#32) (num 52 + 369937616#32) = st8 2981272720#32 3579709122#32 3244542753#32 2543384045#32 1134943992#32 2710884687#32 906398686#32 3909789552#32 := by kernel_rfl
  rw [f52, e52, h3]
theorem f54 : vF firstF b0 54 = st8 974034039#32 2981272720#32 3579709122#32 3244542753#32 4254700398#32 1134943992#32 2710884687#32 906398686#32 := by
  show stepF (vF firstF b0 53) (num 53 + spr b0 53) = _
  have h3 : stepF (st8 2981272720#32 3579709122#32 3244542753#32 2543384045#32 1134943992#32 2710884687#32 906398686#32 3909789552#32) (num 53 + 195877528#32) = st8 974034039#32 2981272720#32 3579709122#32 3244542753#32 4254700398#32 1134943992#32 2710884687#32 906398686#32 := by kernel_rfl
  rw [f53, e53, h3]
theorem f55 : vF firstF b0 55 = st8 749689034#32 974034039#32 2981272720#32 3579709122#32 3850954136#32 4254700398#32 1134943992#32 2710884687#32 := by
  show stepF (vF firstF b0 54) (num 54 + spr b0 54) = _
  have h3 : stepF (st8 974034039#32 2981272720#32 3579709122#32 3244542753#32 4254700398#32 1134943992#32 2710884687#32 906398686#32) (num 54 + 907775968#32) = st8 749689034#32 974034039#32 2981272720#32 3579709122#32 3850954136#32 4254700398#32 1134943992#32 2710884687#32 := by kernel_rfl
  rw [f54, e54, h3]
theorem f56 : vF firstF b0 56 = st8 23298068#32 749689034#32 974034039#32 2981272720#32 2918796810#32 3850954136#32 4254700398#32 1134943992#32 := by
  show stepF (vF firstF b0 55) (num 55 + spr b0 55) = _
  have h3 : stepF (st8 749689034#32 974034039#32 2981272720#32 3579709122#32 3850954136#32 4254700398#32 1134943992#32 2710884687#32) (num 55 + 3526495142#32) = st8 23298068#32 749689034#32 974034039#32 2981272720#32 2918796810#32 3850954136#32 4254700398#32 1134943992#32 := by kernel_rfl
  rw [f55, e55, h3]
theorem f57 : vF firstF b0 57 = st8 2126991890#32 23298068#32 749689034#32 974034039#32 2035393328#32 2918796810#32 3850954136#32 4254700398#32 := by
  show stepF (vF firstF b0 56) (num 56 + spr b0 56) = _
  have h3 : stepF (st8 23298068#32 749689034#32 974034039#32 2981272720#32 2918796810#32 3850954136#32 4254700398#32 1134943992#32) (num 56 + 43741191#32) = st8 2126991890#32 23298068#32 749689034#32 974034039#32 2035393328#32 2918796810#32 3850954136#32 4254700398#32 := by kernel_rfl
  rw [f56, e56, h3]
theorem f58 : vF firstF b0 58 = st8 3891021244#32 2126991890#32 23298068#32 749689034#32 3802734300#32 2035393328#32 2918796810#32 3850954136#32 := by
  show stepF (vF firstF b0 57) (num 57 + spr b0 57) = _
  have h3 : stepF (st8 2126991890#32 23298068#32 749689034#32 974034039#32 2035393328#32 2918796810#32 3850954136#32 4254700398#32) (num 57 + 1967544444#32) = st8 3891021244#32 2126991890#32 23298068#32 749689034#32 3802734300#32 2035393328#32 2918796810#32 3850954136#32 := by kernel_rfl
  rw [f57, e57, h3]
theorem f59 : vF firstF b0 59 = st8 3911429062#32 3891021244#32 2126991890#32 23298068#32 148956906#32 3802734300#32 2035393328#32 2918796810#32 := by
  show stepF (vF firstF b0 58) (num 58 + spr b0 58) = _
  have h3 : stepF (st8 3891021244#32 2126991890#32 23298068#32 749689034#32 3802734300#32 2035393328#32 2918796810#32 3850954136#32) (num 58 + 133517113#32) = st8 3911429062#32 3891021244#32 2126991890#32 23298068#32 148956906#32 3802734300#32 2035393328#32 2918796810#32 := by kernel_rfl
  rw [f58, e58, h3]
theorem f60 : vF firstF b0 60 = st8 71572494#32 3911429062#32 3891021244#32 2126991890#32 2867830852#32 148956906#32 3802734300#32 2035393328#32 := by
  show stepF (vF firstF b0 59) (num 59 + spr b0 59) = _
  have h3 : stepF (st8 3911429062#32 3891021244#32 2126991890#32 23298068#32 148956906#32 3802734300#32 2035393328#32 2918796810#32) (num 59 + 4161330627#32) = st8 71572494#32 3911429062#32 3891021244#32 2126991890#32 2867830852#32 148956906#32 3802734300#32 2035393328#32 := by kernel_rfl
  rw [f59, e59, h3]
theorem f61 : vF firstF b0 61 = st8 4095722474#32 71572494#32 3911429062#32 3891021244#32 477227836#32 2867830852#32 148956906#32 3802734300#32 := by
  show stepF (vF firstF b0 60) (num 60 + spr b0 60) = _
  have h3 : stepF (st8 71572494#32 3911429062#32 3891021244#32 2126991890#32 2867830852#32 148956906#32 3802734300#32 2035393328#32) (num 60 + 3704256008#32) = st8 4095722474#32 71572494#32 3911429062#32 3891021244#32 477227836#32 2867830852#32 148956906#32 3802734300#32 := by kernel_rfl
  rw [f60, e60, h3]
theorem f62 : vF firstF b0 62 = st8 1586299222#32 4095722474#32 71572494#32 3911429062#32 2232532848#32 477227836#32 2867830852#32 148956906#32 := by
  show stepF (vF firstF b0 61) (num 61 + spr b0 61) = _
  have h3 : stepF (st8 4095722474#32 71572494#32 3911429062#32 3891021244#32 477227836#32 2867830852#32 148956906#32 3802734300#32) (num 61 + 1581412744#32) = st8 1586299222#32 4095722474#32 71572494#32 3911429062#32 2232532848#32 477227836#32 2867830852#32 148956906#32 := by kernel_rfl
  rw [f61, e61, h3]
theorem f63 : vF firstF b0 63 = st8 3717492111#32 1586299222#32 4095722474#32 71572494#32 3382061760#32 2232532848#32 477227836#32 2867830852#32 := by
  show stepF (vF firstF b0 62) (num 62 + spr b0 62) = _
  have h3 : stepF (st8 1586299222#32 4095722474#32 71572494#32 3911429062#32 2232532848#32 477227836#32 2867830852#32 148956906#32) (num 62 + 1153231965#32) = st8 3717492111#32 1586299222#32 4095722474#32 71572494#32 3382061760#32 2232532848#32 477227836#32 2867830852#32 := by kernel_rfl
  rw [f62, e62, h3]
theorem f64 : vF firstF b0 64 = st8 2040978907#32 3717492111#32 1586299222#32 4095722474#32 3600805733#32 3382061760#32 2232532848#32 477227836#32 := by
  show stepF (vF firstF b0 63) (num 63 + spr b0 63) = _
  have h3 : stepF (st8 3717492111#32 1586299222#32 4095722474#32 71572494#32 3382061760#32 2232532848#32 477227836#32 2867830852#32) (num 63 + 996066459#32) = st8 2040978907#32 3717492111#32 1586299222#32 4095722474#32 3600805733#32 3382061760#32 2232532848#32 477227836#32 := by kernel_rfl
  rw [f63, e63, h3]
theorem first_of : mixF firstF b0 0 = 3820012610#32 := by
  show firstF 0 + vF firstF b0 64 0 = _
  have h3 : firstF 0 + (st8 2040978907#32 3717492111#32 1586299222#32 4095722474#32 3600805733#32 3382061760#32 2232532848#32 477227836#32) 0 = 3820012610#32 := by kernel_rfl
  rw [f64, h3]
end Go.Proofs.YtdenbbfmiadcbaaDoor
