/-
  In whichever pieces octets come; the sums of no octets and of abc, evaluated.
-/
import Derived.Test.YtdenbbfmiadcbaaDoorShProg
import Derived.Test.YtdenbbfmiadcbaaDoorBlVal
namespace Go.Proofs.YtdenbbfmiadcbaaDoor
open Go.ChangeShapes Go.WideShapes Go.ChangeAt Go.RowKit
set_option linter.unusedVariables false
set_option maxRecDepth 20000
/-- Only the sixty-four octets of a block count. -/
theorem head_ext {b c : Nat → BitVec 8} (h : ∀ i, i < 64 → b i = c i) : ∀ t, t ≤ 16 → head b t = head c t
  | 0, _ => rfl
  | t + 1, ht => by
    show upd (head b t) t (w4 b t) = upd (head c t) t (w4 c t)
    rw [head_ext h t (by omega)]
    unfold w4
    rw [h _ (by omega), h _ (by omega), h _ (by omega), h _ (by omega)]
theorem tail_ext {b c : Nat → BitVec 8} (h : ∀ i, i < 64 → b i = c i) : ∀ k, tailF b k = tailF c k
  | 0 => head_ext h 16 (Nat.le_refl _)
  | k + 1 => by
    show upd (tailF b k) (16 + k) (nxw (tailF b k) (16 + k)) = upd (tailF c k) (16 + k) (nxw (tailF c k) (16 + k))
    rw [tail_ext h k]
theorem vF_ext (g : Nat → BitVec 32) {b c : Nat → BitVec 8} (h : ∀ i, i < 64 → b i = c i) : ∀ t, vF g b t = vF g c t
  | 0 => rfl
  | t + 1 => by
    show stepF (vF g b t) (num t + spr b t) = stepF (vF g c t) (num t + spr c t)
    rw [vF_ext g h t, show spr b = spr c from tail_ext h 48]
theorem mixF_ext (g : Nat → BitVec 32) {b c : Nat → BitVec 8} (h : ∀ i, i < 64 → b i = c i) : mixF g b = mixF g c := by
  unfold mixF
  rw [vF_ext g h 64]
theorem blk_app (u y : List Int) (t : Nat) (ht : 64 * t + 64 ≤ u.length) : ∀ i, i < 64 → blk u t i = blk (u ++ y) t i := by
  intro i hi
  unfold blk
  simp only [List.getD]
  rw [List.getElem?_append_left (by omega)]
theorem fold_app (h : Nat → BitVec 32) (u y : List Int) : ∀ a, 64 * a ≤ u.length → fold h u a = fold h (u ++ y) a
  | 0, _ => rfl
  | a + 1, ha => by
    show mixF (fold h u a) (blk u a) = mixF (fold h (u ++ y) a) (blk (u ++ y) a)
    rw [fold_app h u y a (by omega), mixF_ext _ (blk_app u y a (by omega))]
theorem blk_add (u : List Int) (a t : Nat) : blk (u.drop (64 * a)) t = blk u (a + t) := by
  funext i
  unfold blk
  rw [show 64 * (a + t) + i = 64 * a + (64 * t + i) by omega]
  simp only [List.getD, List.getElem?_drop]
theorem fold_add (h : Nat → BitVec 32) (u : List Int) (a : Nat) : ∀ t, fold (fold h u a) (u.drop (64 * a)) t = fold h u (a + t)
  | 0 => rfl
  | t + 1 => by
    show mixF (fold (fold h u a) (u.drop (64 * a)) t) (blk (u.drop (64 * a)) t) = mixF (fold h u (a + t)) (blk u (a + t))
    rw [fold_add h u a t, blk_add]
theorem rest_len (u : List Int) : (rest u).length = u.length % 64 := by
  unfold rest
  rw [List.length_drop]
  omega
theorem rest_app (u y : List Int) : rest u ++ y = (u ++ y).drop (64 * (u.length / 64)) := by
  unfold rest
  rw [List.drop_append_of_le_length (by omega)]
theorem hOf_rest (h : Nat → BitVec 32) (u y : List Int) : hOf (hOf h u) (rest u ++ y) = hOf h (u ++ y) := by
  have hl : (rest u ++ y).length = u.length % 64 + y.length := by rw [List.length_append, rest_len]
  unfold hOf
  rw [hl, rest_app, fold_app h u y _ (by omega), fold_add, List.length_append]
  rw [show u.length / 64 + (u.length % 64 + y.length) / 64 = (u.length + y.length) / 64 by omega]
theorem rest_rest (u y : List Int) : rest (rest u ++ y) = rest (u ++ y) := by
  have hl : (rest u ++ y).length = u.length % 64 + y.length := by rw [List.length_append, rest_len]
  show (rest u ++ y).drop (64 * ((rest u ++ y).length / 64)) = _
  rw [hl, rest_app, List.drop_drop]
  unfold rest
  rw [List.length_append]
  rw [show 64 * (u.length / 64) + 64 * ((u.length % 64 + y.length) / 64) = 64 * ((u.length + y.length) / 64) by omega]
theorem S.wr_ok (s : S) (x : List Int) : (s.wr x).ok := by
  unfold S.wr
  split
  · exact S.new_ok
  · rename_i h
    have h1 := s.as_n
    refine ⟨?_, ?_, ?_⟩
    · show (rest _).length < 64
      rw [rest_len]
      omega
    · show 0 ≤ s.as.n + (x.length : Int)
      omega
    · show s.as.n + (x.length : Int) ≤ 1125899906842624
      omega
theorem S.wr_eq (s : S) (x : List Int) (h : s.as.n + x.length ≤ 1125899906842624) : s.wr x = ⟨hOf s.as.h (s.as.b ++ x), rest (s.as.b ++ x), s.as.n + x.length⟩ := if_neg (by omega)
/-- In whichever pieces octets come. -/
theorem S.wr_wr (s : S) (x y : List Int) (h : s.as.n + x.length + y.length ≤ 1125899906842624) : (s.wr x).wr y = s.wr (x ++ y) := by
  have h1 := S.wr_eq s x (by omega)
  have h2 : (s.wr x).as = s.wr x := S.as_ok (s.wr_ok x)
  rw [S.wr_eq (s.wr x) y (by rw [h2, h1]; exact h), h2, h1, S.wr_eq s (x ++ y) (by rw [List.length_append]; omega)]
  simp only []
  rw [hOf_rest, rest_rest, List.append_assoc, List.length_append]
  congr 1
  omega
theorem S.wr_nil (s : S) : (s.wr []).wr [] = s.wr [] ∧ ∀ x, s.as.n + (x.length : Int) ≤ 1125899906842624 → (s.wr x).wr [] = s.wr x := by
  have key : ∀ x, s.as.n + (x.length : Int) ≤ 1125899906842624 → (s.wr x).wr [] = s.wr x := by
    intro x hx
    rw [S.wr_wr s x [] (by simpa using hx), List.append_nil]
  exact ⟨key [] (by have := s.as_n; simp only [List.length_nil]; omega), key⟩
theorem sumL_short (xs : List Int) (hx : xs.length < 56) (hz : 9 + zeroN xs.length + xs.length = 64) : sumL xs = outF (mixF firstF (blk (xs ++ padL xs.length) 0)) 8 := by
  have hn : S.new.as = S.new := S.as_ok S.new_ok
  have h1 := S.wr_eq S.new xs (by rw [hn]; show (0 : Int) + xs.length ≤ _; omega)
  rw [hn] at h1
  have h2 : (S.new.wr xs).as = S.new.wr xs := S.as_ok (S.new.wr_ok xs)
  have hr : rest xs = xs := by
    unfold rest
    rw [show xs.length / 64 = 0 by omega]
    rfl
  have hh : hOf firstF xs = firstF := by
    unfold hOf
    rw [show xs.length / 64 = 0 by omega]
    rfl
  have h3 : S.new.wr xs = ⟨firstF, xs, xs.length⟩ := by
    rw [h1]
    show S.mk (hOf firstF ([] ++ xs)) (rest ([] ++ xs)) ((0 : Int) + xs.length) = _
    rw [List.nil_append, hr, hh, Int.zero_add]
  have hp : (padL (xs.length : Int)).length = 9 + zeroN xs.length := padL_len (by omega)
  show outF ((S.new.wr xs).as.wr (padL (S.new.wr xs).as.n)).h 8 = _
  rw [h2, h3]
  have h4 := S.wr_eq (⟨firstF, xs, xs.length⟩ : S) (padL (xs.length : Int)) (by rw [S.as_ok (by rw [← h3]; exact S.new.wr_ok xs)]; show (xs.length : Int) + _ ≤ _; rw [hp]; omega)
  rw [S.as_ok (by rw [← h3]; exact S.new.wr_ok xs)] at h4
  rw [h4]
  show outF (hOf firstF (xs ++ padL xs.length)) 8 = _
  unfold hOf
  rw [List.length_append, hp, show (xs.length + (9 + zeroN xs.length)) / 64 = 1 by omega]
  rfl
def xp : Nat → BitVec 8 := blk ([] ++ padL 0) 0
theorem ep0 : spr xp 0 = 2147483648#32 := by rw [spr_lo xp (by omega)]; kernel_rfl
theorem ep1 : spr xp 1 = 0#32 := by rw [spr_lo xp (by omega)]; kernel_rfl
theorem ep2 : spr xp 2 = 0#32 := by rw [spr_lo xp (by omega)]; kernel_rfl
theorem ep3 : spr xp 3 = 0#32 := by rw [spr_lo xp (by omega)]; kernel_rfl
theorem ep4 : spr xp 4 = 0#32 := by rw [spr_lo xp (by omega)]; kernel_rfl
theorem ep5 : spr xp 5 = 0#32 := by rw [spr_lo xp (by omega)]; kernel_rfl
theorem ep6 : spr xp 6 = 0#32 := by rw [spr_lo xp (by omega)]; kernel_rfl
theorem ep7 : spr xp 7 = 0#32 := by rw [spr_lo xp (by omega)]; kernel_rfl
theorem ep8 : spr xp 8 = 0#32 := by rw [spr_lo xp (by omega)]; kernel_rfl
theorem ep9 : spr xp 9 = 0#32 := by rw [spr_lo xp (by omega)]; kernel_rfl
theorem ep10 : spr xp 10 = 0#32 := by rw [spr_lo xp (by omega)]; kernel_rfl
theorem ep11 : spr xp 11 = 0#32 := by rw [spr_lo xp (by omega)]; kernel_rfl
theorem ep12 : spr xp 12 = 0#32 := by rw [spr_lo xp (by omega)]; kernel_rfl
theorem ep13 : spr xp 13 = 0#32 := by rw [spr_lo xp (by omega)]; kernel_rfl
theorem ep14 : spr xp 14 = 0#32 := by rw [spr_lo xp (by omega)]; kernel_rfl
theorem ep15 : spr xp 15 = 0#32 := by rw [spr_lo xp (by omega)]; kernel_rfl
theorem ep16 : spr xp 16 = 2147483648#32 := by
  have h := spr_hi xp (k := 0) (by omega)
  show spr xp (16 + 0) = _
  rw [h]
  show spr xp 0 + lowX (spr xp 1) + spr xp 9 + lowY (spr xp 14) = _
  rw [ep0, ep1, ep9, ep14]
  kernel_rfl
theorem ep17 : spr xp 17 = 0#32 := by
  have h := spr_hi xp (k := 1) (by omega)
  show spr xp (16 + 1) = _
  rw [h]
  show spr xp 1 + lowX (spr xp 2) + spr xp 10 + lowY (spr xp 15) = _
  rw [ep1, ep2, ep10, ep15]
  kernel_rfl
theorem ep18 : spr xp 18 = 2117632#32 := by
  have h := spr_hi xp (k := 2) (by omega)
  show spr xp (16 + 2) = _
  rw [h]
  show spr xp 2 + lowX (spr xp 3) + spr xp 11 + lowY (spr xp 16) = _
  rw [ep2, ep3, ep11, ep16]
  kernel_rfl
theorem ep19 : spr xp 19 = 0#32 := by
  have h := spr_hi xp (k := 3) (by omega)
  show spr xp (16 + 3) = _
  rw [h]
  show spr xp 3 + lowX (spr xp 4) + spr xp 12 + lowY (spr xp 17) = _
  rw [ep3, ep4, ep12, ep17]
  kernel_rfl
theorem ep20 : spr xp 20 = 570427392#32 := by
  have h := spr_hi xp (k := 4) (by omega)
  show spr xp (16 + 4) = _
  rw [h]
  show spr xp 4 + lowX (spr xp 5) + spr xp 13 + lowY (spr xp 18) = _
  rw [ep4, ep5, ep13, ep18]
  kernel_rfl
theorem ep21 : spr xp 21 = 0#32 := by
  have h := spr_hi xp (k := 5) (by omega)
  show spr xp (16 + 5) = _
  rw [h]
  show spr xp 5 + lowX (spr xp 6) + spr xp 14 + lowY (spr xp 19) = _
  rw [ep5, ep6, ep14, ep19]
  kernel_rfl
theorem ep22 : spr xp 22 = 84448578#32 := by
  have h := spr_hi xp (k := 6) (by omega)
  show spr xp (16 + 6) = _
  rw [h]
  show spr xp 6 + lowX (spr xp 7) + spr xp 15 + lowY (spr xp 20) = _
  rw [ep6, ep7, ep15, ep20]
  kernel_rfl
theorem ep23 : spr xp 23 = 2147483648#32 := by
  have h := spr_hi xp (k := 7) (by omega)
  show spr xp (16 + 7) = _
  rw [h]
  show spr xp 7 + lowX (spr xp 8) + spr xp 16 + lowY (spr xp 21) = _
  rw [ep7, ep8, ep16, ep21]
  kernel_rfl
theorem ep24 : spr xp 24 = 1476919296#32 := by
  have h := spr_hi xp (k := 8) (by omega)
  show spr xp (16 + 8) = _
  rw [h]
  show spr xp 8 + lowX (spr xp 9) + spr xp 17 + lowY (spr xp 22) = _
  rw [ep8, ep9, ep17, ep22]
  kernel_rfl
theorem ep25 : spr xp 25 = 4235264#32 := by
  have h := spr_hi xp (k := 9) (by omega)
  show spr xp (16 + 9) = _
  rw [h]
  show spr xp 9 + lowX (spr xp 10) + spr xp 18 + lowY (spr xp 23) = _
  rw [ep9, ep10, ep18, ep23]
  kernel_rfl
theorem ep26 : spr xp 26 = 1451269#32 := by
  have h := spr_hi xp (k := 10) (by omega)
  show spr xp (16 + 10) = _
  rw [h]
  show spr xp 10 + lowX (spr xp 11) + spr xp 19 + lowY (spr xp 24) = _
  rw [ep10, ep11, ep19, ep24]
  kernel_rfl
theorem ep27 : spr xp 27 = 1711282176#32 := by
  have h := spr_hi xp (k := 11) (by omega)
  show spr xp (16 + 11) = _
  rw [h]
  show spr xp 11 + lowX (spr xp 12) + spr xp 20 + lowY (spr xp 25) = _
  rw [ep11, ep12, ep20, ep25]
  kernel_rfl
theorem ep28 : spr xp 28 = 3592562048#32 := by
  have h := spr_hi xp (k := 12) (by omega)
  show spr xp (16 + 12) = _
  rw [h]
  show spr xp 12 + lowX (spr xp 13) + spr xp 21 + lowY (spr xp 26) = _
  rw [ep12, ep13, ep21, ep26]
  kernel_rfl
theorem ep29 : spr xp 29 = 337794312#32 := by
  have h := spr_hi xp (k := 13) (by omega)
  show spr xp (16 + 13) = _
  rw [h]
  show spr xp 13 + lowX (spr xp 14) + spr xp 22 + lowY (spr xp 27) = _
  rw [ep13, ep14, ep22, ep27]
  kernel_rfl
theorem ep30 : spr xp 30 = 3594910044#32 := by
  have h := spr_hi xp (k := 14) (by omega)
  show spr xp (16 + 14) = _
  rw [h]
  show spr xp 14 + lowX (spr xp 15) + spr xp 23 + lowY (spr xp 28) = _
  rw [ep14, ep15, ep23, ep28]
  kernel_rfl
theorem ep31 : spr xp 31 = 3374850048#32 := by
  have h := spr_hi xp (k := 15) (by omega)
  show spr xp (16 + 15) = _
  rw [h]
  show spr xp 15 + lowX (spr xp 16) + spr xp 24 + lowY (spr xp 29) = _
  rw [ep15, ep16, ep24, ep29]
  kernel_rfl
theorem ep32 : spr xp 32 = 3287351444#32 := by
  have h := spr_hi xp (k := 16) (by omega)
  show spr xp (16 + 16) = _
  rw [h]
  show spr xp 16 + lowX (spr xp 17) + spr xp 25 + lowY (spr xp 30) = _
  rw [ep16, ep17, ep25, ep30]
  kernel_rfl
theorem ep33 : spr xp 33 = 676112230#32 := by
  have h := spr_hi xp (k := 17) (by omega)
  show spr xp (16 + 17) = _
  rw [h]
  show spr xp 17 + lowX (spr xp 18) + spr xp 26 + lowY (spr xp 31) = _
  rw [ep17, ep18, ep26, ep31]
  kernel_rfl
theorem ep34 : spr xp 34 = 109604294#32 := by
  have h := spr_hi xp (k := 18) (by omega)
  show spr xp (16 + 18) = _
  rw [h]
  show spr xp 18 + lowX (spr xp 19) + spr xp 27 + lowY (spr xp 32) = _
  rw [ep18, ep19, ep27, ep32]
  kernel_rfl
theorem ep35 : spr xp 35 = 2742808854#32 := by
  have h := spr_hi xp (k := 19) (by omega)
  show spr xp (16 + 19) = _
  rw [h]
  show spr xp 19 + lowX (spr xp 20) + spr xp 28 + lowY (spr xp 33) = _
  rw [ep19, ep20, ep28, ep33]
  kernel_rfl
theorem ep36 : spr xp 36 = 1904000662#32 := by
  have h := spr_hi xp (k := 20) (by omega)
  show spr xp (16 + 20) = _
  rw [h]
  show spr xp 20 + lowX (spr xp 21) + spr xp 29 + lowY (spr xp 34) = _
  rw [ep20, ep21, ep29, ep34]
  kernel_rfl
theorem ep37 : spr xp 37 = 4274181962#32 := by
  have h := spr_hi xp (k := 21) (by omega)
  show spr xp (16 + 21) = _
  rw [h]
  show spr xp 21 + lowX (spr xp 22) + spr xp 30 + lowY (spr xp 35) = _
  rw [ep21, ep22, ep30, ep35]
  kernel_rfl
theorem ep38 : spr xp 38 = 2813755136#32 := by
  have h := spr_hi xp (k := 22) (by omega)
  show spr xp (16 + 22) = _
  rw [h]
  show spr xp 22 + lowX (spr xp 23) + spr xp 31 + lowY (spr xp 36) = _
  rw [ep22, ep23, ep31, ep36]
  kernel_rfl
theorem ep39 : spr xp 39 = 2165675682#32 := by
  have h := spr_hi xp (k := 23) (by omega)
  show spr xp (16 + 23) = _
  rw [h]
  show spr xp 23 + lowX (spr xp 24) + spr xp 32 + lowY (spr xp 37) = _
  rw [ep23, ep24, ep32, ep37]
  kernel_rfl
theorem ep40 : spr xp 40 = 2561075048#32 := by
  have h := spr_hi xp (k := 24) (by omega)
  show spr xp (16 + 24) = _
  rw [h]
  show spr xp 24 + lowX (spr xp 25) + spr xp 33 + lowY (spr xp 38) = _
  rw [ep24, ep25, ep33, ep38]
  kernel_rfl
theorem ep41 : spr xp 41 = 62000258#32 := by
  have h := spr_hi xp (k := 25) (by omega)
  show spr xp (16 + 25) = _
  rw [h]
  show spr xp 25 + lowX (spr xp 26) + spr xp 34 + lowY (spr xp 39) = _
  rw [ep25, ep26, ep34, ep39]
  kernel_rfl
theorem ep42 : spr xp 42 = 1562224585#32 := by
  have h := spr_hi xp (k := 26) (by omega)
  show spr xp (16 + 26) = _
  rw [h]
  show spr xp 26 + lowX (spr xp 27) + spr xp 35 + lowY (spr xp 40) = _
  rw [ep26, ep27, ep35, ep40]
  kernel_rfl
theorem ep43 : spr xp 43 = 2975250741#32 := by
  have h := spr_hi xp (k := 27) (by omega)
  show spr xp (16 + 27) = _
  rw [h]
  show spr xp 27 + lowX (spr xp 28) + spr xp 36 + lowY (spr xp 41) = _
  rw [ep27, ep28, ep36, ep41]
  kernel_rfl
theorem ep44 : spr xp 44 = 3286092305#32 := by
  have h := spr_hi xp (k := 28) (by omega)
  show spr xp (16 + 28) = _
  rw [h]
  show spr xp 28 + lowX (spr xp 29) + spr xp 37 + lowY (spr xp 42) = _
  rw [ep28, ep29, ep37, ep42]
  kernel_rfl
theorem ep45 : spr xp 45 = 614207615#32 := by
  have h := spr_hi xp (k := 29) (by omega)
  show spr xp (16 + 29) = _
  rw [h]
  show spr xp 29 + lowX (spr xp 30) + spr xp 38 + lowY (spr xp 43) = _
  rw [ep29, ep30, ep38, ep43]
  kernel_rfl
theorem ep46 : spr xp 46 = 3297584367#32 := by
  have h := spr_hi xp (k := 30) (by omega)
  show spr xp (16 + 30) = _
  rw [h]
  show spr xp 30 + lowX (spr xp 31) + spr xp 39 + lowY (spr xp 44) = _
  rw [ep30, ep31, ep39, ep44]
  kernel_rfl
theorem ep47 : spr xp 47 = 1575308336#32 := by
  have h := spr_hi xp (k := 31) (by omega)
  show spr xp (16 + 31) = _
  rw [h]
  show spr xp 31 + lowX (spr xp 32) + spr xp 40 + lowY (spr xp 45) = _
  rw [ep31, ep32, ep40, ep45]
  kernel_rfl
theorem ep48 : spr xp 48 = 3741240933#32 := by
  have h := spr_hi xp (k := 32) (by omega)
  show spr xp (16 + 32) = _
  rw [h]
  show spr xp 32 + lowX (spr xp 33) + spr xp 41 + lowY (spr xp 46) = _
  rw [ep32, ep33, ep41, ep46]
  kernel_rfl
theorem ep49 : spr xp 49 = 748767245#32 := by
  have h := spr_hi xp (k := 33) (by omega)
  show spr xp (16 + 33) = _
  rw [h]
  show spr xp 33 + lowX (spr xp 34) + spr xp 42 + lowY (spr xp 47) = _
  rw [ep33, ep34, ep42, ep47]
  kernel_rfl
theorem ep50 : spr xp 50 = 1008022316#32 := by
  have h := spr_hi xp (k := 34) (by omega)
  show spr xp (16 + 34) = _
  rw [h]
  show spr xp 34 + lowX (spr xp 35) + spr xp 43 + lowY (spr xp 48) = _
  rw [ep34, ep35, ep43, ep48]
  kernel_rfl
theorem ep51 : spr xp 51 = 30329261#32 := by
  have h := spr_hi xp (k := 35) (by omega)
  show spr xp (16 + 35) = _
  rw [h]
  show spr xp 35 + lowX (spr xp 36) + spr xp 44 + lowY (spr xp 49) = _
  rw [ep35, ep36, ep44, ep49]
  kernel_rfl
theorem ep52 : spr xp 52 = 369937616#32 := by
  have h := spr_hi xp (k := 36) (by omega)
  show spr xp (16 + 36) = _
  rw [h]
  show spr xp 36 + lowX (spr xp 37) + spr xp 45 + lowY (spr xp 50) = _
  rw [ep36, ep37, ep45, ep50]
  kernel_rfl
theorem ep53 : spr xp 53 = 195877528#32 := by
  have h := spr_hi xp (k := 37) (by omega)
  show spr xp (16 + 37) = _
  rw [h]
  show spr xp 37 + lowX (spr xp 38) + spr xp 46 + lowY (spr xp 51) = _
  rw [ep37, ep38, ep46, ep51]
  kernel_rfl
theorem ep54 : spr xp 54 = 907775968#32 := by
  have h := spr_hi xp (k := 38) (by omega)
  show spr xp (16 + 38) = _
  rw [h]
  show spr xp 38 + lowX (spr xp 39) + spr xp 47 + lowY (spr xp 52) = _
  rw [ep38, ep39, ep47, ep52]
  kernel_rfl
theorem ep55 : spr xp 55 = 3526495142#32 := by
  have h := spr_hi xp (k := 39) (by omega)
  show spr xp (16 + 39) = _
  rw [h]
  show spr xp 39 + lowX (spr xp 40) + spr xp 48 + lowY (spr xp 53) = _
  rw [ep39, ep40, ep48, ep53]
  kernel_rfl
theorem ep56 : spr xp 56 = 43741191#32 := by
  have h := spr_hi xp (k := 40) (by omega)
  show spr xp (16 + 40) = _
  rw [h]
  show spr xp 40 + lowX (spr xp 41) + spr xp 49 + lowY (spr xp 54) = _
  rw [ep40, ep41, ep49, ep54]
  kernel_rfl
theorem ep57 : spr xp 57 = 1967544444#32 := by
  have h := spr_hi xp (k := 41) (by omega)
  show spr xp (16 + 41) = _
  rw [h]
  show spr xp 41 + lowX (spr xp 42) + spr xp 50 + lowY (spr xp 55) = _
  rw [ep41, ep42, ep50, ep55]
  kernel_rfl
theorem ep58 : spr xp 58 = 133517113#32 := by
  have h := spr_hi xp (k := 42) (by omega)
  show spr xp (16 + 42) = _
  rw [h]
  show spr xp 42 + lowX (spr xp 43) + spr xp 51 + lowY (spr xp 56) = _
  rw [ep42, ep43, ep51, ep56]
  kernel_rfl
theorem ep59 : spr xp 59 = 4161330627#32 := by
  have h := spr_hi xp (k := 43) (by omega)
  show spr xp (16 + 43) = _
  rw [h]
  show spr xp 43 + lowX (spr xp 44) + spr xp 52 + lowY (spr xp 57) = _
  rw [ep43, ep44, ep52, ep57]
  kernel_rfl
theorem ep60 : spr xp 60 = 3704256008#32 := by
  have h := spr_hi xp (k := 44) (by omega)
  show spr xp (16 + 44) = _
  rw [h]
  show spr xp 44 + lowX (spr xp 45) + spr xp 53 + lowY (spr xp 58) = _
  rw [ep44, ep45, ep53, ep58]
  kernel_rfl
theorem ep61 : spr xp 61 = 1581412744#32 := by
  have h := spr_hi xp (k := 45) (by omega)
  show spr xp (16 + 45) = _
  rw [h]
  show spr xp 45 + lowX (spr xp 46) + spr xp 54 + lowY (spr xp 59) = _
  rw [ep45, ep46, ep54, ep59]
  kernel_rfl
theorem ep62 : spr xp 62 = 1153231965#32 := by
  have h := spr_hi xp (k := 46) (by omega)
  show spr xp (16 + 46) = _
  rw [h]
  show spr xp 46 + lowX (spr xp 47) + spr xp 55 + lowY (spr xp 60) = _
  rw [ep46, ep47, ep55, ep60]
  kernel_rfl
theorem ep63 : spr xp 63 = 996066459#32 := by
  have h := spr_hi xp (k := 47) (by omega)
  show spr xp (16 + 47) = _
  rw [h]
  show spr xp 47 + lowX (spr xp 48) + spr xp 56 + lowY (spr xp 61) = _
  rw [ep47, ep48, ep56, ep61]
  kernel_rfl
theorem gp1 : vF firstF xp 1 = st8 2080933965#32 1779033703#32 3144134277#32 1013904242#32 415752866#32 1359893119#32 2600822924#32 528734635#32 := by
  show stepF (vF firstF xp 0) (num 0 + spr xp 0) = _
  have h3 : stepF firstF (num 0 + 2147483648#32) = st8 2080933965#32 1779033703#32 3144134277#32 1013904242#32 415752866#32 1359893119#32 2600822924#32 528734635#32 := by kernel_rfl
  rw [show vF firstF xp 0 = firstF from rfl, ep0, h3]
theorem gp2 : vF firstF xp 2 = st8 2632279248#32 2080933965#32 1779033703#32 3144134277#32 536982102#32 415752866#32 1359893119#32 2600822924#32 := by
  show stepF (vF firstF xp 1) (num 1 + spr xp 1) = _
  have h3 : stepF (st8 2080933965#32 1779033703#32 3144134277#32 1013904242#32 415752866#32 1359893119#32 2600822924#32 528734635#32) (num 1 + 0#32) = st8 2632279248#32 2080933965#32 1779033703#32 3144134277#32 536982102#32 415752866#32 1359893119#32 2600822924#32 := by kernel_rfl
  rw [gp1, ep1, h3]
theorem gp3 : vF firstF xp 3 = st8 3299628326#32 2632279248#32 2080933965#32 1779033703#32 1876632314#32 536982102#32 415752866#32 1359893119#32 := by
  show stepF (vF firstF xp 2) (num 2 + spr xp 2) = _
  have h3 : stepF (st8 2632279248#32 2080933965#32 1779033703#32 3144134277#32 536982102#32 415752866#32 1359893119#32 2600822924#32) (num 2 + 0#32) = st8 3299628326#32 2632279248#32 2080933965#32 1779033703#32 1876632314#32 536982102#32 415752866#32 1359893119#32 := by kernel_rfl
  rw [gp2, ep2, h3]
theorem gp4 : vF firstF xp 4 = st8 1277422283#32 3299628326#32 2632279248#32 2080933965#32 808968629#32 1876632314#32 536982102#32 415752866#32 := by
  show stepF (vF firstF xp 3) (num 3 + spr xp 3) = _
  have h3 : stepF (st8 3299628326#32 2632279248#32 2080933965#32 1779033703#32 1876632314#32 536982102#32 415752866#32 1359893119#32) (num 3 + 0#32) = st8 1277422283#32 3299628326#32 2632279248#32 2080933965#32 808968629#32 1876632314#32 536982102#32 415752866#32 := by kernel_rfl
  rw [gp3, ep3, h3]
theorem gp5 : vF firstF xp 5 = st8 1130821424#32 1277422283#32 3299628326#32 2632279248#32 3889194014#32 808968629#32 1876632314#32 536982102#32 := by
  show stepF (vF firstF xp 4) (num 4 + spr xp 4) = _
  have h3 : stepF (st8 1277422283#32 3299628326#32 2632279248#32 2080933965#32 808968629#32 1876632314#32 536982102#32 415752866#32) (num 4 + 0#32) = st8 1130821424#32 1277422283#32 3299628326#32 2632279248#32 3889194014#32 808968629#32 1876632314#32 536982102#32 := by kernel_rfl
  rw [gp4, ep4, h3]
theorem gp6 : vF firstF xp 6 = st8 690895682#32 1130821424#32 1277422283#32 3299628326#32 1332035834#32 3889194014#32 808968629#32 1876632314#32 := by
  show stepF (vF firstF xp 5) (num 5 + spr xp 5) = _
  have h3 : stepF (st8 1130821424#32 1277422283#32 3299628326#32 2632279248#32 3889194014#32 808968629#32 1876632314#32 536982102#32) (num 5 + 0#32) = st8 690895682#32 1130821424#32 1277422283#32 3299628326#32 1332035834#32 3889194014#32 808968629#32 1876632314#32 := by kernel_rfl
  rw [gp5, ep5, h3]
theorem gp7 : vF firstF xp 7 = st8 4028650896#32 690895682#32 1130821424#32 1277422283#32 2196627567#32 1332035834#32 3889194014#32 808968629#32 := by
  show stepF (vF firstF xp 6) (num 6 + spr xp 6) = _
  have h3 : stepF (st8 690895682#32 1130821424#32 1277422283#32 3299628326#32 1332035834#32 3889194014#32 808968629#32 1876632314#32) (num 6 + 0#32) = st8 4028650896#32 690895682#32 1130821424#32 1277422283#32 2196627567#32 1332035834#32 3889194014#32 808968629#32 := by kernel_rfl
  rw [gp6, ep6, h3]
theorem gp8 : vF firstF xp 8 = st8 2060825014#32 4028650896#32 690895682#32 1130821424#32 1408847307#32 2196627567#32 1332035834#32 3889194014#32 := by
  show stepF (vF firstF xp 7) (num 7 + spr xp 7) = _
  have h3 : stepF (st8 4028650896#32 690895682#32 1130821424#32 1277422283#32 2196627567#32 1332035834#32 3889194014#32 808968629#32) (num 7 + 0#32) = st8 2060825014#32 4028650896#32 690895682#32 1130821424#32 1408847307#32 2196627567#32 1332035834#32 3889194014#32 := by kernel_rfl
  rw [gp7, ep7, h3]
theorem gp9 : vF firstF xp 9 = st8 4113392549#32 2060825014#32 4028650896#32 690895682#32 2058339864#32 1408847307#32 2196627567#32 1332035834#32 := by
  show stepF (vF firstF xp 8) (num 8 + spr xp 8) = _
  have h3 : stepF (st8 2060825014#32 4028650896#32 690895682#32 1130821424#32 1408847307#32 2196627567#32 1332035834#32 3889194014#32) (num 8 + 0#32) = st8 4113392549#32 2060825014#32 4028650896#32 690895682#32 2058339864#32 1408847307#32 2196627567#32 1332035834#32 := by kernel_rfl
  rw [gp8, ep8, h3]
theorem gp10 : vF firstF xp 10 = st8 4025007953#32 4113392549#32 2060825014#32 4028650896#32 1392976521#32 2058339864#32 1408847307#32 2196627567#32 := by
  show stepF (vF firstF xp 9) (num 9 + spr xp 9) = _
  have h3 : stepF (st8 4113392549#32 2060825014#32 4028650896#32 690895682#32 2058339864#32 1408847307#32 2196627567#32 1332035834#32) (num 9 + 0#32) = st8 4025007953#32 4113392549#32 2060825014#32 4028650896#32 1392976521#32 2058339864#32 1408847307#32 2196627567#32 := by kernel_rfl
  rw [gp9, ep9, h3]
theorem gp11 : vF firstF xp 11 = st8 361478433#32 4025007953#32 4113392549#32 2060825014#32 3795207118#32 1392976521#32 2058339864#32 1408847307#32 := by
  show stepF (vF firstF xp 10) (num 10 + spr xp 10) = _
  have h3 : stepF (st8 4025007953#32 4113392549#32 2060825014#32 4028650896#32 1392976521#32 2058339864#32 1408847307#32 2196627567#32) (num 10 + 0#32) = st8 361478433#32 4025007953#32 4113392549#32 2060825014#32 3795207118#32 1392976521#32 2058339864#32 1408847307#32 := by kernel_rfl
  rw [gp10, ep10, h3]
theorem gp12 : vF firstF xp 12 = st8 4114828352#32 361478433#32 4025007953#32 4113392549#32 3621813394#32 3795207118#32 1392976521#32 2058339864#32 := by
  show stepF (vF firstF xp 11) (num 11 + spr xp 11) = _
  have h3 : stepF (st8 361478433#32 4025007953#32 4113392549#32 2060825014#32 3795207118#32 1392976521#32 2058339864#32 1408847307#32) (num 11 + 0#32) = st8 4114828352#32 361478433#32 4025007953#32 4113392549#32 3621813394#32 3795207118#32 1392976521#32 2058339864#32 := by kernel_rfl
  rw [gp11, ep11, h3]
theorem gp13 : vF firstF xp 13 = st8 553833165#32 4114828352#32 361478433#32 4025007953#32 3455974994#32 3621813394#32 3795207118#32 1392976521#32 := by
  show stepF (vF firstF xp 12) (num 12 + spr xp 12) = _
  have h3 : stepF (st8 4114828352#32 361478433#32 4025007953#32 4113392549#32 3621813394#32 3795207118#32 1392976521#32 2058339864#32) (num 12 + 0#32) = st8 553833165#32 4114828352#32 361478433#32 4025007953#32 3455974994#32 3621813394#32 3795207118#32 1392976521#32 := by kernel_rfl
  rw [gp12, ep12, h3]
theorem gp14 : vF firstF xp 14 = st8 1170215847#32 553833165#32 4114828352#32 361478433#32 725774998#32 3455974994#32 3621813394#32 3795207118#32 := by
  show stepF (vF firstF xp 13) (num 13 + spr xp 13) = _
  have h3 : stepF (st8 553833165#32 4114828352#32 361478433#32 4025007953#32 3455974994#32 3621813394#32 3795207118#32 1392976521#32) (num 13 + 0#32) = st8 1170215847#32 553833165#32 4114828352#32 361478433#32 725774998#32 3455974994#32 3621813394#32 3795207118#32 := by kernel_rfl
  rw [gp13, ep13, h3]
theorem gp15 : vF firstF xp 15 = st8 3096116699#32 1170215847#32 553833165#32 4114828352#32 483372089#32 725774998#32 3455974994#32 3621813394#32 := by
  show stepF (vF firstF xp 14) (num 14 + spr xp 14) = _
  have h3 : stepF (st8 1170215847#32 553833165#32 4114828352#32 361478433#32 725774998#32 3455974994#32 3621813394#32 3795207118#32) (num 14 + 0#32) = st8 3096116699#32 1170215847#32 553833165#32 4114828352#32 483372089#32 725774998#32 3455974994#32 3621813394#32 := by kernel_rfl
  rw [gp14, ep14, h3]
theorem gp16 : vF firstF xp 16 = st8 3019933109#32 3096116699#32 1170215847#32 553833165#32 1555621987#32 483372089#32 725774998#32 3455974994#32 := by
  show stepF (vF firstF xp 15) (num 15 + spr xp 15) = _
  have h3 : stepF (st8 3096116699#32 1170215847#32 553833165#32 4114828352#32 483372089#32 725774998#32 3455974994#32 3621813394#32) (num 15 + 0#32) = st8 3019933109#32 3096116699#32 1170215847#32 553833165#32 1555621987#32 483372089#32 725774998#32 3455974994#32 := by kernel_rfl
  rw [gp15, ep15, h3]
theorem gp17 : vF firstF xp 17 = st8 1192056138#32 3019933109#32 3096116699#32 1170215847#32 1892956839#32 1555621987#32 483372089#32 725774998#32 := by
  show stepF (vF firstF xp 16) (num 16 + spr xp 16) = _
  have h3 : stepF (st8 3019933109#32 3096116699#32 1170215847#32 553833165#32 1555621987#32 483372089#32 725774998#32 3455974994#32) (num 16 + 2147483648#32) = st8 1192056138#32 3019933109#32 3096116699#32 1170215847#32 1892956839#32 1555621987#32 483372089#32 725774998#32 := by kernel_rfl
  rw [gp16, ep16, h3]
theorem gp18 : vF firstF xp 18 = st8 3717831211#32 1192056138#32 3019933109#32 3096116699#32 1619825619#32 1892956839#32 1555621987#32 483372089#32 := by
  show stepF (vF firstF xp 17) (num 17 + spr xp 17) = _
  have h3 : stepF (st8 1192056138#32 3019933109#32 3096116699#32 1170215847#32 1892956839#32 1555621987#32 483372089#32 725774998#32) (num 17 + 0#32) = st8 3717831211#32 1192056138#32 3019933109#32 3096116699#32 1619825619#32 1892956839#32 1555621987#32 483372089#32 := by kernel_rfl
  rw [gp17, ep17, h3]
theorem gp19 : vF firstF xp 19 = st8 812095850#32 3717831211#32 1192056138#32 3019933109#32 3550010602#32 1619825619#32 1892956839#32 1555621987#32 := by
  show stepF (vF firstF xp 18) (num 18 + spr xp 18) = _
  have h3 : stepF (st8 3717831211#32 1192056138#32 3019933109#32 3096116699#32 1619825619#32 1892956839#32 1555621987#32 483372089#32) (num 18 + 2117632#32) = st8 812095850#32 3717831211#32 1192056138#32 3019933109#32 3550010602#32 1619825619#32 1892956839#32 1555621987#32 := by kernel_rfl
  rw [gp18, ep18, h3]
theorem gp20 : vF firstF xp 20 = st8 172493064#32 812095850#32 3717831211#32 1192056138#32 2416781228#32 3550010602#32 1619825619#32 1892956839#32 := by
  show stepF (vF firstF xp 19) (num 19 + spr xp 19) = _
  have h3 : stepF (st8 812095850#32 3717831211#32 1192056138#32 3019933109#32 3550010602#32 1619825619#32 1892956839#32 1555621987#32) (num 19 + 0#32) = st8 172493064#32 812095850#32 3717831211#32 1192056138#32 2416781228#32 3550010602#32 1619825619#32 1892956839#32 := by kernel_rfl
  rw [gp19, ep19, h3]
theorem gp21 : vF firstF xp 21 = st8 1976037592#32 172493064#32 812095850#32 3717831211#32 966081741#32 2416781228#32 3550010602#32 1619825619#32 := by
  show stepF (vF firstF xp 20) (num 20 + spr xp 20) = _
  have h3 : stepF (st8 172493064#32 812095850#32 3717831211#32 1192056138#32 2416781228#32 3550010602#32 1619825619#32 1892956839#32) (num 20 + 570427392#32) = st8 1976037592#32 172493064#32 812095850#32 3717831211#32 966081741#32 2416781228#32 3550010602#32 1619825619#32 := by kernel_rfl
  rw [gp20, ep20, h3]
theorem gp22 : vF firstF xp 22 = st8 2577845017#32 1976037592#32 172493064#32 812095850#32 3263666206#32 966081741#32 2416781228#32 3550010602#32 := by
  show stepF (vF firstF xp 21) (num 21 + spr xp 21) = _
  have h3 : stepF (st8 1976037592#32 172493064#32 812095850#32 3717831211#32 966081741#32 2416781228#32 3550010602#32 1619825619#32) (num 21 + 0#32) = st8 2577845017#32 1976037592#32 172493064#32 812095850#32 3263666206#32 966081741#32 2416781228#32 3550010602#32 := by kernel_rfl
  rw [gp21, ep21, h3]
theorem gp23 : vF firstF xp 23 = st8 1078820948#32 2577845017#32 1976037592#32 172493064#32 2976200464#32 3263666206#32 966081741#32 2416781228#32 := by
  show stepF (vF firstF xp 22) (num 22 + spr xp 22) = _
  have h3 : stepF (st8 2577845017#32 1976037592#32 172493064#32 812095850#32 3263666206#32 966081741#32 2416781228#32 3550010602#32) (num 22 + 84448578#32) = st8 1078820948#32 2577845017#32 1976037592#32 172493064#32 2976200464#32 3263666206#32 966081741#32 2416781228#32 := by kernel_rfl
  rw [gp22, ep22, h3]
theorem gp24 : vF firstF xp 24 = st8 2556161365#32 1078820948#32 2577845017#32 1976037592#32 741081741#32 2976200464#32 3263666206#32 966081741#32 := by
  show stepF (vF firstF xp 23) (num 23 + spr xp 23) = _
  have h3 : stepF (st8 1078820948#32 2577845017#32 1976037592#32 172493064#32 2976200464#32 3263666206#32 966081741#32 2416781228#32) (num 23 + 2147483648#32) = st8 2556161365#32 1078820948#32 2577845017#32 1976037592#32 741081741#32 2976200464#32 3263666206#32 966081741#32 := by kernel_rfl
  rw [gp23, ep23, h3]
theorem gp25 : vF firstF xp 25 = st8 2062996621#32 2556161365#32 1078820948#32 2577845017#32 4116679717#32 741081741#32 2976200464#32 3263666206#32 := by
  show stepF (vF firstF xp 24) (num 24 + spr xp 24) = _
  have h3 : stepF (st8 2556161365#32 1078820948#32 2577845017#32 1976037592#32 741081741#32 2976200464#32 3263666206#32 966081741#32) (num 24 + 1476919296#32) = st8 2062996621#32 2556161365#32 1078820948#32 2577845017#32 4116679717#32 741081741#32 2976200464#32 3263666206#32 := by kernel_rfl
  rw [gp24, ep24, h3]
theorem gp26 : vF firstF xp 26 = st8 3317175470#32 2062996621#32 2556161365#32 1078820948#32 3850028020#32 4116679717#32 741081741#32 2976200464#32 := by
  show stepF (vF firstF xp 25) (num 25 + spr xp 25) = _
  have h3 : stepF (st8 2062996621#32 2556161365#32 1078820948#32 2577845017#32 4116679717#32 741081741#32 2976200464#32 3263666206#32) (num 25 + 4235264#32) = st8 3317175470#32 2062996621#32 2556161365#32 1078820948#32 3850028020#32 4116679717#32 741081741#32 2976200464#32 := by kernel_rfl
  rw [gp25, ep25, h3]
theorem gp27 : vF firstF xp 27 = st8 747317945#32 3317175470#32 2062996621#32 2556161365#32 2677228163#32 3850028020#32 4116679717#32 741081741#32 := by
  show stepF (vF firstF xp 26) (num 26 + spr xp 26) = _
  have h3 : stepF (st8 3317175470#32 2062996621#32 2556161365#32 1078820948#32 3850028020#32 4116679717#32 741081741#32 2976200464#32) (num 26 + 1451269#32) = st8 747317945#32 3317175470#32 2062996621#32 2556161365#32 2677228163#32 3850028020#32 4116679717#32 741081741#32 := by kernel_rfl
  rw [gp26, ep26, h3]
theorem gp28 : vF firstF xp 28 = st8 1837942423#32 747317945#32 3317175470#32 2062996621#32 1726829818#32 2677228163#32 3850028020#32 4116679717#32 := by
  show stepF (vF firstF xp 27) (num 27 + spr xp 27) = _
  have h3 : stepF (st8 747317945#32 3317175470#32 2062996621#32 2556161365#32 2677228163#32 3850028020#32 4116679717#32 741081741#32) (num 27 + 1711282176#32) = st8 1837942423#32 747317945#32 3317175470#32 2062996621#32 1726829818#32 2677228163#32 3850028020#32 4116679717#32 := by kernel_rfl
  rw [gp27, ep27, h3]
theorem gp29 : vF firstF xp 29 = st8 1690082844#32 1837942423#32 747317945#32 3317175470#32 2506713973#32 1726829818#32 2677228163#32 3850028020#32 := by
  show stepF (vF firstF xp 28) (num 28 + spr xp 28) = _
  have h3 : stepF (st8 1837942423#32 747317945#32 3317175470#32 2062996621#32 1726829818#32 2677228163#32 3850028020#32 4116679717#32) (num 28 + 3592562048#32) = st8 1690082844#32 1837942423#32 747317945#32 3317175470#32 2506713973#32 1726829818#32 2677228163#32 3850028020#32 := by kernel_rfl
  rw [gp28, ep28, h3]
theorem gp30 : vF firstF xp 30 = st8 1926471693#32 1690082844#32 1837942423#32 747317945#32 2957685293#32 2506713973#32 1726829818#32 2677228163#32 := by
  show stepF (vF firstF xp 29) (num 29 + spr xp 29) = _
  have h3 : stepF (st8 1690082844#32 1837942423#32 747317945#32 3317175470#32 2506713973#32 1726829818#32 2677228163#32 3850028020#32) (num 29 + 337794312#32) = st8 1926471693#32 1690082844#32 1837942423#32 747317945#32 2957685293#32 2506713973#32 1726829818#32 2677228163#32 := by kernel_rfl
  rw [gp29, ep29, h3]
theorem gp31 : vF firstF xp 31 = st8 2696613087#32 1926471693#32 1690082844#32 1837942423#32 1447716390#32 2957685293#32 2506713973#32 1726829818#32 := by
  show stepF (vF firstF xp 30) (num 30 + spr xp 30) = _
  have h3 : stepF (st8 1926471693#32 1690082844#32 1837942423#32 747317945#32 2957685293#32 2506713973#32 1726829818#32 2677228163#32) (num 30 + 3594910044#32) = st8 2696613087#32 1926471693#32 1690082844#32 1837942423#32 1447716390#32 2957685293#32 2506713973#32 1726829818#32 := by kernel_rfl
  rw [gp30, ep30, h3]
theorem gp32 : vF firstF xp 32 = st8 300352095#32 2696613087#32 1926471693#32 1690082844#32 3151463532#32 1447716390#32 2957685293#32 2506713973#32 := by
  show stepF (vF firstF xp 31) (num 31 + spr xp 31) = _
  have h3 : stepF (st8 2696613087#32 1926471693#32 1690082844#32 1837942423#32 1447716390#32 2957685293#32 2506713973#32 1726829818#32) (num 31 + 3374850048#32) = st8 300352095#32 2696613087#32 1926471693#32 1690082844#32 3151463532#32 1447716390#32 2957685293#32 2506713973#32 := by kernel_rfl
  rw [gp31, ep31, h3]
theorem gp33 : vF firstF xp 33 = st8 3817927606#32 300352095#32 2696613087#32 1926471693#32 3436338571#32 3151463532#32 1447716390#32 2957685293#32 := by
  show stepF (vF firstF xp 32) (num 32 + spr xp 32) = _
  have h3 : stepF (st8 300352095#32 2696613087#32 1926471693#32 1690082844#32 3151463532#32 1447716390#32 2957685293#32 2506713973#32) (num 32 + 3287351444#32) = st8 3817927606#32 300352095#32 2696613087#32 1926471693#32 3436338571#32 3151463532#32 1447716390#32 2957685293#32 := by kernel_rfl
  rw [gp32, ep32, h3]
theorem gp34 : vF firstF xp 34 = st8 2705438357#32 3817927606#32 300352095#32 2696613087#32 197416927#32 3436338571#32 3151463532#32 1447716390#32 := by
  show stepF (vF firstF xp 33) (num 33 + spr xp 33) = _
  have h3 : stepF (st8 3817927606#32 300352095#32 2696613087#32 1926471693#32 3436338571#32 3151463532#32 1447716390#32 2957685293#32) (num 33 + 676112230#32) = st8 2705438357#32 3817927606#32 300352095#32 2696613087#32 197416927#32 3436338571#32 3151463532#32 1447716390#32 := by kernel_rfl
  rw [gp33, ep33, h3]
theorem gp35 : vF firstF xp 35 = st8 1151435175#32 2705438357#32 3817927606#32 300352095#32 1769188034#32 197416927#32 3436338571#32 3151463532#32 := by
  show stepF (vF firstF xp 34) (num 34 + spr xp 34) = _
  have h3 : stepF (st8 2705438357#32 3817927606#32 300352095#32 2696613087#32 197416927#32 3436338571#32 3151463532#32 1447716390#32) (num 34 + 109604294#32) = st8 1151435175#32 2705438357#32 3817927606#32 300352095#32 1769188034#32 197416927#32 3436338571#32 3151463532#32 := by kernel_rfl
  rw [gp34, ep34, h3]
theorem gp36 : vF firstF xp 36 = st8 1679812728#32 1151435175#32 2705438357#32 3817927606#32 980442793#32 1769188034#32 197416927#32 3436338571#32 := by
  show stepF (vF firstF xp 35) (num 35 + spr xp 35) = _
  have h3 : stepF (st8 1151435175#32 2705438357#32 3817927606#32 300352095#32 1769188034#32 197416927#32 3436338571#32 3151463532#32) (num 35 + 2742808854#32) = st8 1679812728#32 1151435175#32 2705438357#32 3817927606#32 980442793#32 1769188034#32 197416927#32 3436338571#32 := by kernel_rfl
  rw [gp35, ep35, h3]
theorem gp37 : vF firstF xp 37 = st8 2694206301#32 1679812728#32 1151435175#32 2705438357#32 4206914285#32 980442793#32 1769188034#32 197416927#32 := by
  show stepF (vF firstF xp 36) (num 36 + spr xp 36) = _
  have h3 : stepF (st8 1679812728#32 1151435175#32 2705438357#32 3817927606#32 980442793#32 1769188034#32 197416927#32 3436338571#32) (num 36 + 1904000662#32) = st8 2694206301#32 1679812728#32 1151435175#32 2705438357#32 4206914285#32 980442793#32 1769188034#32 197416927#32 := by kernel_rfl
  rw [gp36, ep36, h3]
theorem gp38 : vF firstF xp 38 = st8 1457773646#32 2694206301#32 1679812728#32 1151435175#32 3892832895#32 4206914285#32 980442793#32 1769188034#32 := by
  show stepF (vF firstF xp 37) (num 37 + spr xp 37) = _
  have h3 : stepF (st8 2694206301#32 1679812728#32 1151435175#32 2705438357#32 4206914285#32 980442793#32 1769188034#32 197416927#32) (num 37 + 4274181962#32) = st8 1457773646#32 2694206301#32 1679812728#32 1151435175#32 3892832895#32 4206914285#32 980442793#32 1769188034#32 := by kernel_rfl
  rw [gp37, ep37, h3]
theorem gp39 : vF firstF xp 39 = st8 2656625711#32 1457773646#32 2694206301#32 1679812728#32 2242319396#32 3892832895#32 4206914285#32 980442793#32 := by
  show stepF (vF firstF xp 38) (num 38 + spr xp 38) = _
  have h3 : stepF (st8 1457773646#32 2694206301#32 1679812728#32 1151435175#32 3892832895#32 4206914285#32 980442793#32 1769188034#32) (num 38 + 2813755136#32) = st8 2656625711#32 1457773646#32 2694206301#32 1679812728#32 2242319396#32 3892832895#32 4206914285#32 980442793#32 := by kernel_rfl
  rw [gp38, ep38, h3]
theorem gp40 : vF firstF xp 40 = st8 1234768305#32 2656625711#32 1457773646#32 2694206301#32 1902882853#32 2242319396#32 3892832895#32 4206914285#32 := by
  show stepF (vF firstF xp 39) (num 39 + spr xp 39) = _
  have h3 : stepF (st8 2656625711#32 1457773646#32 2694206301#32 1679812728#32 2242319396#32 3892832895#32 4206914285#32 980442793#32) (num 39 + 2165675682#32) = st8 1234768305#32 2656625711#32 1457773646#32 2694206301#32 1902882853#32 2242319396#32 3892832895#32 4206914285#32 := by kernel_rfl
  rw [gp39, ep39, h3]
theorem gp41 : vF firstF xp 41 = st8 4270245939#32 1234768305#32 2656625711#32 1457773646#32 2224585183#32 1902882853#32 2242319396#32 3892832895#32 := by
  show stepF (vF firstF xp 40) (num 40 + spr xp 40) = _
  have h3 : stepF (st8 1234768305#32 2656625711#32 1457773646#32 2694206301#32 1902882853#32 2242319396#32 3892832895#32 4206914285#32) (num 40 + 2561075048#32) = st8 4270245939#32 1234768305#32 2656625711#32 1457773646#32 2224585183#32 1902882853#32 2242319396#32 3892832895#32 := by kernel_rfl
  rw [gp40, ep40, h3]
theorem gp42 : vF firstF xp 42 = st8 580450446#32 4270245939#32 1234768305#32 2656625711#32 4123364073#32 2224585183#32 1902882853#32 2242319396#32 := by
  show stepF (vF firstF xp 41) (num 41 + spr xp 41) = _
  have h3 : stepF (st8 4270245939#32 1234768305#32 2656625711#32 1457773646#32 2224585183#32 1902882853#32 2242319396#32 3892832895#32) (num 41 + 62000258#32) = st8 580450446#32 4270245939#32 1234768305#32 2656625711#32 4123364073#32 2224585183#32 1902882853#32 2242319396#32 := by kernel_rfl
  rw [gp41, ep41, h3]
theorem gp43 : vF firstF xp 43 = st8 3686090155#32 580450446#32 4270245939#32 1234768305#32 3762306745#32 4123364073#32 2224585183#32 1902882853#32 := by
  show stepF (vF firstF xp 42) (num 42 + spr xp 42) = _
  have h3 : stepF (st8 580450446#32 4270245939#32 1234768305#32 2656625711#32 4123364073#32 2224585183#32 1902882853#32 2242319396#32) (num 42 + 1562224585#32) = st8 3686090155#32 580450446#32 4270245939#32 1234768305#32 3762306745#32 4123364073#32 2224585183#32 1902882853#32 := by kernel_rfl
  rw [gp42, ep42, h3]
theorem gp44 : vF firstF xp 44 = st8 3907209042#32 3686090155#32 580450446#32 4270245939#32 692219050#32 3762306745#32 4123364073#32 2224585183#32 := by
  show stepF (vF firstF xp 43) (num 43 + spr xp 43) = _
  have h3 : stepF (st8 3686090155#32 580450446#32 4270245939#32 1234768305#32 3762306745#32 4123364073#32 2224585183#32 1902882853#32) (num 43 + 2975250741#32) = st8 3907209042#32 3686090155#32 580450446#32 4270245939#32 692219050#32 3762306745#32 4123364073#32 2224585183#32 := by kernel_rfl
  rw [gp43, ep43, h3]
theorem gp45 : vF firstF xp 45 = st8 2752082644#32 3907209042#32 3686090155#32 580450446#32 2855016464#32 692219050#32 3762306745#32 4123364073#32 := by
  show stepF (vF firstF xp 44) (num 44 + spr xp 44) = _
  have h3 : stepF (st8 3907209042#32 3686090155#32 580450446#32 4270245939#32 692219050#32 3762306745#32 4123364073#32 2224585183#32) (num 44 + 3286092305#32) = st8 2752082644#32 3907209042#32 3686090155#32 580450446#32 2855016464#32 692219050#32 3762306745#32 4123364073#32 := by kernel_rfl
  rw [gp44, ep44, h3]
theorem gp46 : vF firstF xp 46 = st8 855262251#32 2752082644#32 3907209042#32 3686090155#32 3531982457#32 2855016464#32 692219050#32 3762306745#32 := by
  show stepF (vF firstF xp 45) (num 45 + spr xp 45) = _
  have h3 : stepF (st8 2752082644#32 3907209042#32 3686090155#32 580450446#32 2855016464#32 692219050#32 3762306745#32 4123364073#32) (num 45 + 614207615#32) = st8 855262251#32 2752082644#32 3907209042#32 3686090155#32 3531982457#32 2855016464#32 692219050#32 3762306745#32 := by kernel_rfl
  rw [gp45, ep45, h3]
theorem gp47 : vF firstF xp 47 = st8 1419259244#32 855262251#32 2752082644#32 3907209042#32 2322236082#32 3531982457#32 2855016464#32 692219050#32 := by
  show stepF (vF firstF xp 46) (num 46 + spr xp 46) = _
  have h3 : stepF (st8 855262251#32 2752082644#32 3907209042#32 3686090155#32 3531982457#32 2855016464#32 692219050#32 3762306745#32) (num 46 + 3297584367#32) = st8 1419259244#32 855262251#32 2752082644#32 3907209042#32 2322236082#32 3531982457#32 2855016464#32 692219050#32 := by kernel_rfl
  rw [gp46, ep46, h3]
theorem gp48 : vF firstF xp 48 = st8 911881421#32 1419259244#32 855262251#32 2752082644#32 3417569515#32 2322236082#32 3531982457#32 2855016464#32 := by
  show stepF (vF firstF xp 47) (num 47 + spr xp 47) = _
  have h3 : stepF (st8 1419259244#32 855262251#32 2752082644#32 3907209042#32 2322236082#32 3531982457#32 2855016464#32 692219050#32) (num 47 + 1575308336#32) = st8 911881421#32 1419259244#32 855262251#32 2752082644#32 3417569515#32 2322236082#32 3531982457#32 2855016464#32 := by kernel_rfl
  rw [gp47, ep47, h3]
theorem gp49 : vF firstF xp 49 = st8 1655188062#32 911881421#32 1419259244#32 855262251#32 1286303114#32 3417569515#32 2322236082#32 3531982457#32 := by
  show stepF (vF firstF xp 48) (num 48 + spr xp 48) = _
  have h3 : stepF (st8 911881421#32 1419259244#32 855262251#32 2752082644#32 3417569515#32 2322236082#32 3531982457#32 2855016464#32) (num 48 + 3741240933#32) = st8 1655188062#32 911881421#32 1419259244#32 855262251#32 1286303114#32 3417569515#32 2322236082#32 3531982457#32 := by kernel_rfl
  rw [gp48, ep48, h3]
theorem gp50 : vF firstF xp 50 = st8 2543384045#32 1655188062#32 911881421#32 1419259244#32 3909789552#32 1286303114#32 3417569515#32 2322236082#32 := by
  show stepF (vF firstF xp 49) (num 49 + spr xp 49) = _
  have h3 : stepF (st8 1655188062#32 911881421#32 1419259244#32 855262251#32 1286303114#32 3417569515#32 2322236082#32 3531982457#32) (num 49 + 748767245#32) = st8 2543384045#32 1655188062#32 911881421#32 1419259244#32 3909789552#32 1286303114#32 3417569515#32 2322236082#32 := by kernel_rfl
  rw [gp49, ep49, h3]
theorem gp51 : vF firstF xp 51 = st8 3244542753#32 2543384045#32 1655188062#32 911881421#32 906398686#32 3909789552#32 1286303114#32 3417569515#32 := by
  show stepF (vF firstF xp 50) (num 50 + spr xp 50) = _
  have h3 : stepF (st8 2543384045#32 1655188062#32 911881421#32 1419259244#32 3909789552#32 1286303114#32 3417569515#32 2322236082#32) (num 50 + 1008022316#32) = st8 3244542753#32 2543384045#32 1655188062#32 911881421#32 906398686#32 3909789552#32 1286303114#32 3417569515#32 := by kernel_rfl
  rw [gp50, ep50, h3]
theorem gp52 : vF firstF xp 52 = st8 3579709122#32 3244542753#32 2543384045#32 1655188062#32 2710884687#32 906398686#32 3909789552#32 1286303114#32 := by
  show stepF (vF firstF xp 51) (num 51 + spr xp 51) = _
  have h3 : stepF (st8 3244542753#32 2543384045#32 1655188062#32 911881421#32 906398686#32 3909789552#32 1286303114#32 3417569515#32) (num 51 + 30329261#32) = st8 3579709122#32 3244542753#32 2543384045#32 1655188062#32 2710884687#32 906398686#32 3909789552#32 1286303114#32 := by kernel_rfl
  rw [gp51, ep51, h3]
theorem gp53 : vF firstF xp 53 = st8 2981272720#32 3579709122#32 3244542753#32 2543384045#32 1134943992#32 2710884687#32 906398686#32 3909789552#32 := by
  show stepF (vF firstF xp 52) (num 52 + spr xp 52) = _
  have h3 : stepF (st8 3579709122#32 3244542753#32 2543384045#32 1655188062#32 2710884687#32 906398686#32 3909789552#32 1286303114#32) (num 52 + 369937616#32) = st8 2981272720#32 3579709122#32 3244542753#32 2543384045#32 1134943992#32 2710884687#32 906398686#32 3909789552#32 := by kernel_rfl
  rw [gp52, ep52, h3]
theorem gp54 : vF firstF xp 54 = st8 974034039#32 2981272720#32 3579709122#32 3244542753#32 4254700398#32 1134943992#32 2710884687#32 906398686#32 := by
  show stepF (vF firstF xp 53) (num 53 + spr xp 53) = _
  have h3 : stepF (st8 2981272720#32 3579709122#32 3244542753#32 2543384045#32 1134943992#32 2710884687#32 906398686#32 3909789552#32) (num 53 + 195877528#32) = st8 974034039#32 2981272720#32 3579709122#32 3244542753#32 4254700398#32 1134943992#32 2710884687#32 906398686#32 := by kernel_rfl
  rw [gp53, ep53, h3]
theorem gp55 : vF firstF xp 55 = st8 749689034#32 974034039#32 2981272720#32 3579709122#32 3850954136#32 4254700398#32 1134943992#32 2710884687#32 := by
  show stepF (vF firstF xp 54) (num 54 + spr xp 54) = _
  have h3 : stepF (st8 974034039#32 2981272720#32 3579709122#32 3244542753#32 4254700398#32 1134943992#32 2710884687#32 906398686#32) (num 54 + 907775968#32) = st8 749689034#32 974034039#32 2981272720#32 3579709122#32 3850954136#32 4254700398#32 1134943992#32 2710884687#32 := by kernel_rfl
  rw [gp54, ep54, h3]
theorem gp56 : vF firstF xp 56 = st8 23298068#32 749689034#32 974034039#32 2981272720#32 2918796810#32 3850954136#32 4254700398#32 1134943992#32 := by
  show stepF (vF firstF xp 55) (num 55 + spr xp 55) = _
  have h3 : stepF (st8 749689034#32 974034039#32 2981272720#32 3579709122#32 3850954136#32 4254700398#32 1134943992#32 2710884687#32) (num 55 + 3526495142#32) = st8 23298068#32 749689034#32 974034039#32 2981272720#32 2918796810#32 3850954136#32 4254700398#32 1134943992#32 := by kernel_rfl
  rw [gp55, ep55, h3]
theorem gp57 : vF firstF xp 57 = st8 2126991890#32 23298068#32 749689034#32 974034039#32 2035393328#32 2918796810#32 3850954136#32 4254700398#32 := by
  show stepF (vF firstF xp 56) (num 56 + spr xp 56) = _
  have h3 : stepF (st8 23298068#32 749689034#32 974034039#32 2981272720#32 2918796810#32 3850954136#32 4254700398#32 1134943992#32) (num 56 + 43741191#32) = st8 2126991890#32 23298068#32 749689034#32 974034039#32 2035393328#32 2918796810#32 3850954136#32 4254700398#32 := by kernel_rfl
  rw [gp56, ep56, h3]
theorem gp58 : vF firstF xp 58 = st8 3891021244#32 2126991890#32 23298068#32 749689034#32 3802734300#32 2035393328#32 2918796810#32 3850954136#32 := by
  show stepF (vF firstF xp 57) (num 57 + spr xp 57) = _
  have h3 : stepF (st8 2126991890#32 23298068#32 749689034#32 974034039#32 2035393328#32 2918796810#32 3850954136#32 4254700398#32) (num 57 + 1967544444#32) = st8 3891021244#32 2126991890#32 23298068#32 749689034#32 3802734300#32 2035393328#32 2918796810#32 3850954136#32 := by kernel_rfl
  rw [gp57, ep57, h3]
theorem gp59 : vF firstF xp 59 = st8 3911429062#32 3891021244#32 2126991890#32 23298068#32 148956906#32 3802734300#32 2035393328#32 2918796810#32 := by
  show stepF (vF firstF xp 58) (num 58 + spr xp 58) = _
  have h3 : stepF (st8 3891021244#32 2126991890#32 23298068#32 749689034#32 3802734300#32 2035393328#32 2918796810#32 3850954136#32) (num 58 + 133517113#32) = st8 3911429062#32 3891021244#32 2126991890#32 23298068#32 148956906#32 3802734300#32 2035393328#32 2918796810#32 := by kernel_rfl
  rw [gp58, ep58, h3]
theorem gp60 : vF firstF xp 60 = st8 71572494#32 3911429062#32 3891021244#32 2126991890#32 2867830852#32 148956906#32 3802734300#32 2035393328#32 := by
  show stepF (vF firstF xp 59) (num 59 + spr xp 59) = _
  have h3 : stepF (st8 3911429062#32 3891021244#32 2126991890#32 23298068#32 148956906#32 3802734300#32 2035393328#32 2918796810#32) (num 59 + 4161330627#32) = st8 71572494#32 3911429062#32 3891021244#32 2126991890#32 2867830852#32 148956906#32 3802734300#32 2035393328#32 := by kernel_rfl
  rw [gp59, ep59, h3]
theorem gp61 : vF firstF xp 61 = st8 4095722474#32 71572494#32 3911429062#32 3891021244#32 477227836#32 2867830852#32 148956906#32 3802734300#32 := by
  show stepF (vF firstF xp 60) (num 60 + spr xp 60) = _
  have h3 : stepF (st8 71572494#32 3911429062#32 3891021244#32 2126991890#32 2867830852#32 148956906#32 3802734300#32 2035393328#32) (num 60 + 3704256008#32) = st8 4095722474#32 71572494#32 3911429062#32 3891021244#32 477227836#32 2867830852#32 148956906#32 3802734300#32 := by kernel_rfl
  rw [gp60, ep60, h3]
theorem gp62 : vF firstF xp 62 = st8 1586299222#32 4095722474#32 71572494#32 3911429062#32 2232532848#32 477227836#32 2867830852#32 148956906#32 := by
  show stepF (vF firstF xp 61) (num 61 + spr xp 61) = _
  have h3 : stepF (st8 4095722474#32 71572494#32 3911429062#32 3891021244#32 477227836#32 2867830852#32 148956906#32 3802734300#32) (num 61 + 1581412744#32) = st8 1586299222#32 4095722474#32 71572494#32 3911429062#32 2232532848#32 477227836#32 2867830852#32 148956906#32 := by kernel_rfl
  rw [gp61, ep61, h3]
theorem gp63 : vF firstF xp 63 = st8 3717492111#32 1586299222#32 4095722474#32 71572494#32 3382061760#32 2232532848#32 477227836#32 2867830852#32 := by
  show stepF (vF firstF xp 62) (num 62 + spr xp 62) = _
  have h3 : stepF (st8 1586299222#32 4095722474#32 71572494#32 3911429062#32 2232532848#32 477227836#32 2867830852#32 148956906#32) (num 62 + 1153231965#32) = st8 3717492111#32 1586299222#32 4095722474#32 71572494#32 3382061760#32 2232532848#32 477227836#32 2867830852#32 := by kernel_rfl
  rw [gp62, ep62, h3]
theorem gp64 : vF firstF xp 64 = st8 2040978907#32 3717492111#32 1586299222#32 4095722474#32 3600805733#32 3382061760#32 2232532848#32 477227836#32 := by
  show stepF (vF firstF xp 63) (num 63 + spr xp 63) = _
  have h3 : stepF (st8 3717492111#32 1586299222#32 4095722474#32 71572494#32 3382061760#32 2232532848#32 477227836#32 2867830852#32) (num 63 + 996066459#32) = st8 2040978907#32 3717492111#32 1586299222#32 4095722474#32 3600805733#32 3382061760#32 2232532848#32 477227836#32 := by kernel_rfl
  rw [gp63, ep63, h3]
theorem rp : be4 (mixF firstF xp 0) = [227, 176, 196, 66] := by
  have h4 : mixF firstF xp 0 = 3820012610#32 := by
    show firstF 0 + vF firstF xp 64 0 = _
    have h3 : firstF 0 + (st8 2040978907#32 3717492111#32 1586299222#32 4095722474#32 3600805733#32 3382061760#32 2232532848#32 477227836#32) 0 = 3820012610#32 := by kernel_rfl
    rw [gp64, h3]
  have h5 : be4 3820012610#32 = [227, 176, 196, 66] := by first | rfl | decide
  rw [h4, h5]
def xq : Nat → BitVec 8 := blk ([97, 98, 99] ++ padL 3) 0
theorem eq0 : spr xq 0 = 1633837952#32 := by rw [spr_lo xq (by omega)]; kernel_rfl
theorem eq1 : spr xq 1 = 0#32 := by rw [spr_lo xq (by omega)]; kernel_rfl
theorem eq2 : spr xq 2 = 0#32 := by rw [spr_lo xq (by omega)]; kernel_rfl
theorem eq3 : spr xq 3 = 0#32 := by rw [spr_lo xq (by omega)]; kernel_rfl
theorem eq4 : spr xq 4 = 0#32 := by rw [spr_lo xq (by omega)]; kernel_rfl
theorem eq5 : spr xq 5 = 0#32 := by rw [spr_lo xq (by omega)]; kernel_rfl
theorem eq6 : spr xq 6 = 0#32 := by rw [spr_lo xq (by omega)]; kernel_rfl
theorem eq7 : spr xq 7 = 0#32 := by rw [spr_lo xq (by omega)]; kernel_rfl
theorem eq8 : spr xq 8 = 0#32 := by rw [spr_lo xq (by omega)]; kernel_rfl
theorem eq9 : spr xq 9 = 0#32 := by rw [spr_lo xq (by omega)]; kernel_rfl
theorem eq10 : spr xq 10 = 0#32 := by rw [spr_lo xq (by omega)]; kernel_rfl
theorem eq11 : spr xq 11 = 0#32 := by rw [spr_lo xq (by omega)]; kernel_rfl
theorem eq12 : spr xq 12 = 0#32 := by rw [spr_lo xq (by omega)]; kernel_rfl
theorem eq13 : spr xq 13 = 0#32 := by rw [spr_lo xq (by omega)]; kernel_rfl
theorem eq14 : spr xq 14 = 0#32 := by rw [spr_lo xq (by omega)]; kernel_rfl
theorem eq15 : spr xq 15 = 24#32 := by rw [spr_lo xq (by omega)]; kernel_rfl
theorem eq16 : spr xq 16 = 1633837952#32 := by
  have h := spr_hi xq (k := 0) (by omega)
  show spr xq (16 + 0) = _
  rw [h]
  show spr xq 0 + lowX (spr xq 1) + spr xq 9 + lowY (spr xq 14) = _
  rw [eq0, eq1, eq9, eq14]
  kernel_rfl
theorem eq17 : spr xq 17 = 983040#32 := by
  have h := spr_hi xq (k := 1) (by omega)
  show spr xq (16 + 1) = _
  rw [h]
  show spr xq 1 + lowX (spr xq 2) + spr xq 10 + lowY (spr xq 15) = _
  rw [eq1, eq2, eq10, eq15]
  kernel_rfl
theorem eq18 : spr xq 18 = 2108187653#32 := by
  have h := spr_hi xq (k := 2) (by omega)
  show spr xq (16 + 2) = _
  rw [h]
  show spr xq 2 + lowX (spr xq 3) + spr xq 11 + lowY (spr xq 16) = _
  rw [eq2, eq3, eq11, eq16]
  kernel_rfl
theorem eq19 : spr xq 19 = 1610613702#32 := by
  have h := spr_hi xq (k := 3) (by omega)
  show spr xq (16 + 3) = _
  rw [h]
  show spr xq 3 + lowX (spr xq 4) + spr xq 12 + lowY (spr xq 17) = _
  rw [eq3, eq4, eq12, eq17]
  kernel_rfl
theorem eq20 : spr xq 20 = 1050508152#32 := by
  have h := spr_hi xq (k := 4) (by omega)
  show spr xq (16 + 4) = _
  rw [h]
  show spr xq 4 + lowX (spr xq 5) + spr xq 13 + lowY (spr xq 18) = _
  rw [eq4, eq5, eq13, eq18]
  kernel_rfl
theorem eq21 : spr xq 21 = 25426944#32 := by
  have h := spr_hi xq (k := 5) (by omega)
  show spr xq (16 + 5) = _
  rw [h]
  show spr xq 5 + lowX (spr xq 6) + spr xq 14 + lowY (spr xq 19) = _
  rw [eq5, eq6, eq14, eq19]
  kernel_rfl
theorem eq22 : spr xq 22 = 316456923#32 := by
  have h := spr_hi xq (k := 6) (by omega)
  show spr xq (16 + 6) = _
  rw [h]
  show spr xq 6 + lowX (spr xq 7) + spr xq 15 + lowY (spr xq 20) = _
  rw [eq6, eq7, eq15, eq20]
  kernel_rfl
theorem eq23 : spr xq 23 = 3806512014#32 := by
  have h := spr_hi xq (k := 7) (by omega)
  show spr xq (16 + 7) = _
  rw [h]
  show spr xq 7 + lowX (spr xq 8) + spr xq 16 + lowY (spr xq 21) = _
  rw [eq7, eq8, eq16, eq21]
  kernel_rfl
theorem eq24 : spr xq 24 = 3357629466#32 := by
  have h := spr_hi xq (k := 8) (by omega)
  show spr xq (16 + 8) = _
  rw [h]
  show spr xq 8 + lowX (spr xq 9) + spr xq 17 + lowY (spr xq 22) = _
  rw [eq8, eq9, eq17, eq22]
  kernel_rfl
theorem eq25 : spr xq 25 = 3073800610#32 := by
  have h := spr_hi xq (k := 9) (by omega)
  show spr xq (16 + 9) = _
  rw [h]
  show spr xq 9 + lowX (spr xq 10) + spr xq 18 + lowY (spr xq 23) = _
  rw [eq9, eq10, eq18, eq23]
  kernel_rfl
theorem eq26 : spr xq 26 = 3854317833#32 := by
  have h := spr_hi xq (k := 10) (by omega)
  show spr xq (16 + 10) = _
  rw [h]
  show spr xq 10 + lowX (spr xq 11) + spr xq 19 + lowY (spr xq 24) = _
  rw [eq10, eq11, eq19, eq24]
  kernel_rfl
theorem eq27 : spr xq 27 = 845560923#32 := by
  have h := spr_hi xq (k := 11) (by omega)
  show spr xq (16 + 11) = _
  rw [h]
  show spr xq 11 + lowX (spr xq 12) + spr xq 20 + lowY (spr xq 25) = _
  rw [eq11, eq12, eq20, eq25]
  kernel_rfl
theorem eq28 : spr xq 28 = 2636160359#32 := by
  have h := spr_hi xq (k := 12) (by omega)
  show spr xq (16 + 12) = _
  rw [h]
  show spr xq 12 + lowX (spr xq 13) + spr xq 21 + lowY (spr xq 26) = _
  rw [eq12, eq13, eq21, eq26]
  kernel_rfl
theorem eq29 : spr xq 29 = 3968280267#32 := by
  have h := spr_hi xq (k := 13) (by omega)
  show spr xq (16 + 13) = _
  rw [h]
  show spr xq 13 + lowX (spr xq 14) + spr xq 22 + lowY (spr xq 27) = _
  rw [eq13, eq14, eq22, eq27]
  kernel_rfl
theorem eq30 : spr xq 30 = 1881225380#32 := by
  have h := spr_hi xq (k := 14) (by omega)
  show spr xq (16 + 14) = _
  rw [h]
  show spr xq 14 + lowX (spr xq 15) + spr xq 23 + lowY (spr xq 28) = _
  rw [eq14, eq15, eq23, eq28]
  kernel_rfl
theorem eq31 : spr xq 31 = 3552024379#32 := by
  have h := spr_hi xq (k := 15) (by omega)
  show spr xq (16 + 15) = _
  rw [h]
  show spr xq 15 + lowX (spr xq 16) + spr xq 24 + lowY (spr xq 29) = _
  rw [eq15, eq16, eq24, eq29]
  kernel_rfl
theorem eq32 : spr xq 32 = 2482346367#32 := by
  have h := spr_hi xq (k := 16) (by omega)
  show spr xq (16 + 16) = _
  rw [h]
  show spr xq 16 + lowX (spr xq 17) + spr xq 25 + lowY (spr xq 30) = _
  rw [eq16, eq17, eq25, eq30]
  kernel_rfl
theorem eq33 : spr xq 33 = 996719219#32 := by
  have h := spr_hi xq (k := 17) (by omega)
  show spr xq (16 + 17) = _
  rw [h]
  show spr xq 17 + lowX (spr xq 18) + spr xq 26 + lowY (spr xq 31) = _
  rw [eq17, eq18, eq26, eq31]
  kernel_rfl
theorem eq34 : spr xq 34 = 2952069057#32 := by
  have h := spr_hi xq (k := 18) (by omega)
  show spr xq (16 + 18) = _
  rw [h]
  show spr xq 18 + lowX (spr xq 19) + spr xq 27 + lowY (spr xq 32) = _
  rw [eq18, eq19, eq27, eq32]
  kernel_rfl
theorem eq35 : spr xq 35 = 4043988066#32 := by
  have h := spr_hi xq (k := 19) (by omega)
  show spr xq (16 + 19) = _
  rw [h]
  show spr xq 19 + lowX (spr xq 20) + spr xq 28 + lowY (spr xq 33) = _
  rw [eq19, eq20, eq28, eq33]
  kernel_rfl
theorem eq36 : spr xq 36 = 176896406#32 := by
  have h := spr_hi xq (k := 20) (by omega)
  show spr xq (16 + 20) = _
  rw [h]
  show spr xq 20 + lowX (spr xq 21) + spr xq 29 + lowY (spr xq 34) = _
  rw [eq20, eq21, eq29, eq34]
  kernel_rfl
theorem eq37 : spr xq 37 = 1924104970#32 := by
  have h := spr_hi xq (k := 21) (by omega)
  show spr xq (16 + 21) = _
  rw [h]
  show spr xq 21 + lowX (spr xq 22) + spr xq 30 + lowY (spr xq 35) = _
  rw [eq21, eq22, eq30, eq35]
  kernel_rfl
theorem eq38 : spr xq 38 = 2483675966#32 := by
  have h := spr_hi xq (k := 22) (by omega)
  show spr xq (16 + 22) = _
  rw [h]
  show spr xq 22 + lowX (spr xq 23) + spr xq 31 + lowY (spr xq 36) = _
  rw [eq22, eq23, eq31, eq36]
  kernel_rfl
theorem eq39 : spr xq 39 = 610538786#32 := by
  have h := spr_hi xq (k := 23) (by omega)
  show spr xq (16 + 23) = _
  rw [h]
  show spr xq 23 + lowX (spr xq 24) + spr xq 32 + lowY (spr xq 37) = _
  rw [eq23, eq24, eq32, eq37]
  kernel_rfl
theorem eq40 : spr xq 40 = 2672279444#32 := by
  have h := spr_hi xq (k := 24) (by omega)
  show spr xq (16 + 24) = _
  rw [h]
  show spr xq 24 + lowX (spr xq 25) + spr xq 33 + lowY (spr xq 38) = _
  rw [eq24, eq25, eq33, eq38]
  kernel_rfl
theorem eq41 : spr xq 41 = 4037431130#32 := by
  have h := spr_hi xq (k := 25) (by omega)
  show spr xq (16 + 25) = _
  rw [h]
  show spr xq 25 + lowX (spr xq 26) + spr xq 34 + lowY (spr xq 39) = _
  rw [eq25, eq26, eq34, eq39]
  kernel_rfl
theorem eq42 : spr xq 42 = 1042573945#32 := by
  have h := spr_hi xq (k := 26) (by omega)
  show spr xq (16 + 26) = _
  rw [h]
  show spr xq 26 + lowX (spr xq 27) + spr xq 35 + lowY (spr xq 40) = _
  rw [eq26, eq27, eq35, eq40]
  kernel_rfl
theorem eq43 : spr xq 43 = 657669027#32 := by
  have h := spr_hi xq (k := 27) (by omega)
  show spr xq (16 + 27) = _
  rw [h]
  show spr xq 27 + lowX (spr xq 28) + spr xq 36 + lowY (spr xq 41) = _
  rw [eq27, eq28, eq36, eq41]
  kernel_rfl
theorem eq44 : spr xq 44 = 206005234#32 := by
  have h := spr_hi xq (k := 28) (by omega)
  show spr xq (16 + 28) = _
  rw [h]
  show spr xq 28 + lowX (spr xq 29) + spr xq 37 + lowY (spr xq 42) = _
  rw [eq28, eq29, eq37, eq42]
  kernel_rfl
theorem eq45 : spr xq 45 = 2215296807#32 := by
  have h := spr_hi xq (k := 29) (by omega)
  show spr xq (16 + 29) = _
  rw [h]
  show spr xq 29 + lowX (spr xq 30) + spr xq 38 + lowY (spr xq 43) = _
  rw [eq29, eq30, eq38, eq43]
  kernel_rfl
theorem eq46 : spr xq 46 = 2049510749#32 := by
  have h := spr_hi xq (k := 30) (by omega)
  show spr xq (16 + 30) = _
  rw [h]
  show spr xq 30 + lowX (spr xq 31) + spr xq 39 + lowY (spr xq 44) = _
  rw [eq30, eq31, eq39, eq44]
  kernel_rfl
theorem eq47 : spr xq 47 = 106709978#32 := by
  have h := spr_hi xq (k := 31) (by omega)
  show spr xq (16 + 31) = _
  rw [h]
  show spr xq 31 + lowX (spr xq 32) + spr xq 40 + lowY (spr xq 45) = _
  rw [eq31, eq32, eq40, eq45]
  kernel_rfl
theorem eq48 : spr xq 48 = 4215179723#32 := by
  have h := spr_hi xq (k := 32) (by omega)
  show spr xq (16 + 32) = _
  rw [h]
  show spr xq 32 + lowX (spr xq 33) + spr xq 41 + lowY (spr xq 46) = _
  rw [eq32, eq33, eq41, eq46]
  kernel_rfl
theorem eq49 : spr xq 49 = 3430291419#32 := by
  have h := spr_hi xq (k := 33) (by omega)
  show spr xq (16 + 33) = _
  rw [h]
  show spr xq 33 + lowX (spr xq 34) + spr xq 42 + lowY (spr xq 47) = _
  rw [eq33, eq34, eq42, eq47]
  kernel_rfl
theorem eq50 : spr xq 50 = 3118885940#32 := by
  have h := spr_hi xq (k := 34) (by omega)
  show spr xq (16 + 34) = _
  rw [h]
  show spr xq 34 + lowX (spr xq 35) + spr xq 43 + lowY (spr xq 48) = _
  rw [eq34, eq35, eq43, eq48]
  kernel_rfl
theorem eq51 : spr xq 51 = 2845390439#32 := by
  have h := spr_hi xq (k := 35) (by omega)
  show spr xq (16 + 35) = _
  rw [h]
  show spr xq 35 + lowX (spr xq 36) + spr xq 44 + lowY (spr xq 49) = _
  rw [eq35, eq36, eq44, eq49]
  kernel_rfl
theorem eq52 : spr xq 52 = 2226839261#32 := by
  have h := spr_hi xq (k := 36) (by omega)
  show spr xq (16 + 36) = _
  rw [h]
  show spr xq 36 + lowX (spr xq 37) + spr xq 45 + lowY (spr xq 50) = _
  rw [eq36, eq37, eq45, eq50]
  kernel_rfl
theorem eq53 : spr xq 53 = 3256115900#32 := by
  have h := spr_hi xq (k := 37) (by omega)
  show spr xq (16 + 37) = _
  rw [h]
  show spr xq 37 + lowX (spr xq 38) + spr xq 46 + lowY (spr xq 51) = _
  rw [eq37, eq38, eq46, eq51]
  kernel_rfl
theorem eq54 : spr xq 54 = 344409900#32 := by
  have h := spr_hi xq (k := 38) (by omega)
  show spr xq (16 + 38) = _
  rw [h]
  show spr xq 38 + lowX (spr xq 39) + spr xq 47 + lowY (spr xq 52) = _
  rw [eq38, eq39, eq47, eq52]
  kernel_rfl
theorem eq55 : spr xq 55 = 2987358873#32 := by
  have h := spr_hi xq (k := 39) (by omega)
  show spr xq (16 + 39) = _
  rw [h]
  show spr xq 39 + lowX (spr xq 40) + spr xq 48 + lowY (spr xq 53) = _
  rw [eq39, eq40, eq48, eq53]
  kernel_rfl
theorem eq56 : spr xq 56 = 4015503821#32 := by
  have h := spr_hi xq (k := 40) (by omega)
  show spr xq (16 + 40) = _
  rw [h]
  show spr xq 40 + lowX (spr xq 41) + spr xq 49 + lowY (spr xq 54) = _
  rw [eq40, eq41, eq49, eq54]
  kernel_rfl
theorem eq57 : spr xq 57 = 3957764664#32 := by
  have h := spr_hi xq (k := 41) (by omega)
  show spr xq (16 + 41) = _
  rw [h]
  show spr xq 41 + lowX (spr xq 42) + spr xq 50 + lowY (spr xq 55) = _
  rw [eq41, eq42, eq50, eq55]
  kernel_rfl
theorem eq58 : spr xq 58 = 2682456414#32 := by
  have h := spr_hi xq (k := 42) (by omega)
  show spr xq (16 + 42) = _
  rw [h]
  show spr xq 42 + lowX (spr xq 43) + spr xq 51 + lowY (spr xq 56) = _
  rw [eq42, eq43, eq51, eq56]
  kernel_rfl
theorem eq59 : spr xq 59 = 2025622859#32 := by
  have h := spr_hi xq (k := 43) (by omega)
  show spr xq (16 + 43) = _
  rw [h]
  show spr xq 43 + lowX (spr xq 44) + spr xq 52 + lowY (spr xq 57) = _
  rw [eq43, eq44, eq52, eq57]
  kernel_rfl
theorem eq60 : spr xq 60 = 2755645205#32 := by
  have h := spr_hi xq (k := 44) (by omega)
  show spr xq (16 + 44) = _
  rw [h]
  show spr xq 44 + lowX (spr xq 45) + spr xq 53 + lowY (spr xq 58) = _
  rw [eq44, eq45, eq53, eq58]
  kernel_rfl
theorem eq61 : spr xq 61 = 1720397816#32 := by
  have h := spr_hi xq (k := 45) (by omega)
  show spr xq (16 + 45) = _
  rw [h]
  show spr xq 45 + lowX (spr xq 46) + spr xq 54 + lowY (spr xq 59) = _
  rw [eq45, eq46, eq54, eq59]
  kernel_rfl
theorem eq62 : spr xq 62 = 4004225740#32 := by
  have h := spr_hi xq (k := 46) (by omega)
  show spr xq (16 + 46) = _
  rw [h]
  show spr xq 46 + lowX (spr xq 47) + spr xq 55 + lowY (spr xq 60) = _
  rw [eq46, eq47, eq55, eq60]
  kernel_rfl
theorem eq63 : spr xq 63 = 313650667#32 := by
  have h := spr_hi xq (k := 47) (by omega)
  show spr xq (16 + 47) = _
  rw [h]
  show spr xq 47 + lowX (spr xq 48) + spr xq 56 + lowY (spr xq 61) = _
  rw [eq47, eq48, eq56, eq61]
  kernel_rfl
theorem gq1 : vF firstF xq 1 = st8 1567288269#32 1779033703#32 3144134277#32 1013904242#32 4197074466#32 1359893119#32 2600822924#32 528734635#32 := by
  show stepF (vF firstF xq 0) (num 0 + spr xq 0) = _
  have h3 : stepF firstF (num 0 + 1633837952#32) = st8 1567288269#32 1779033703#32 3144134277#32 1013904242#32 4197074466#32 1359893119#32 2600822924#32 528734635#32 := by kernel_rfl
  rw [show vF firstF xq 0 = firstF from rfl, eq0, h3]
theorem gq2 : vF firstF xq 2 = st8 1516951981#32 1567288269#32 1779033703#32 3144134277#32 2026797449#32 4197074466#32 1359893119#32 2600822924#32 := by
  show stepF (vF firstF xq 1) (num 1 + spr xq 1) = _
  have h3 : stepF (st8 1567288269#32 1779033703#32 3144134277#32 1013904242#32 4197074466#32 1359893119#32 2600822924#32 528734635#32) (num 1 + 0#32) = st8 1516951981#32 1567288269#32 1779033703#32 3144134277#32 2026797449#32 4197074466#32 1359893119#32 2600822924#32 := by kernel_rfl
  rw [gq1, eq1, h3]
theorem gq3 : vF firstF xq 3 = st8 3368241063#32 1516951981#32 1567288269#32 1779033703#32 4180228587#32 2026797449#32 4197074466#32 1359893119#32 := by
  show stepF (vF firstF xq 2) (num 2 + spr xq 2) = _
  have h3 : stepF (st8 1516951981#32 1567288269#32 1779033703#32 3144134277#32 2026797449#32 4197074466#32 1359893119#32 2600822924#32) (num 2 + 0#32) = st8 3368241063#32 1516951981#32 1567288269#32 1779033703#32 4180228587#32 2026797449#32 4197074466#32 1359893119#32 := by kernel_rfl
  rw [gq2, eq2, h3]
theorem gq4 : vF firstF xq 4 = st8 3578852966#32 3368241063#32 1516951981#32 1567288269#32 618661968#32 4180228587#32 2026797449#32 4197074466#32 := by
  show stepF (vF firstF xq 3) (num 3 + spr xq 3) = _
  have h3 : stepF (st8 3368241063#32 1516951981#32 1567288269#32 1779033703#32 4180228587#32 2026797449#32 4197074466#32 1359893119#32) (num 3 + 0#32) = st8 3578852966#32 3368241063#32 1516951981#32 1567288269#32 618661968#32 4180228587#32 2026797449#32 4197074466#32 := by kernel_rfl
  rw [gq3, eq3, h3]
theorem gq5 : vF firstF xq 5 = st8 71342698#32 3578852966#32 3368241063#32 1516951981#32 1135452741#32 618661968#32 4180228587#32 2026797449#32 := by
  show stepF (vF firstF xq 4) (num 4 + spr xq 4) = _
  have h3 : stepF (st8 3578852966#32 3368241063#32 1516951981#32 1567288269#32 618661968#32 4180228587#32 2026797449#32 4197074466#32) (num 4 + 0#32) = st8 71342698#32 3578852966#32 3368241063#32 1516951981#32 1135452741#32 618661968#32 4180228587#32 2026797449#32 := by kernel_rfl
  rw [gq4, eq4, h3]
theorem gq6 : vF firstF xq 6 = st8 725748213#32 71342698#32 3578852966#32 3368241063#32 1900175533#32 1135452741#32 618661968#32 4180228587#32 := by
  show stepF (vF firstF xq 5) (num 5 + spr xq 5) = _
  have h3 : stepF (st8 71342698#32 3578852966#32 3368241063#32 1516951981#32 1135452741#32 618661968#32 4180228587#32 2026797449#32) (num 5 + 0#32) = st8 725748213#32 71342698#32 3578852966#32 3368241063#32 1900175533#32 1135452741#32 618661968#32 4180228587#32 := by kernel_rfl
  rw [gq5, eq5, h3]
theorem gq7 : vF firstF xq 7 = st8 3842179968#32 725748213#32 71342698#32 3578852966#32 2603066369#32 1900175533#32 1135452741#32 618661968#32 := by
  show stepF (vF firstF xq 6) (num 6 + spr xq 6) = _
  have h3 : stepF (st8 725748213#32 71342698#32 3578852966#32 3368241063#32 1900175533#32 1135452741#32 618661968#32 4180228587#32) (num 6 + 0#32) = st8 3842179968#32 725748213#32 71342698#32 3578852966#32 2603066369#32 1900175533#32 1135452741#32 618661968#32 := by kernel_rfl
  rw [gq6, eq6, h3]
theorem gq8 : vF firstF xq 8 = st8 2241887071#32 3842179968#32 725748213#32 71342698#32 207977081#32 2603066369#32 1900175533#32 1135452741#32 := by
  show stepF (vF firstF xq 7) (num 7 + spr xq 7) = _
  have h3 : stepF (st8 3842179968#32 725748213#32 71342698#32 3578852966#32 2603066369#32 1900175533#32 1135452741#32 618661968#32) (num 7 + 0#32) = st8 2241887071#32 3842179968#32 725748213#32 71342698#32 207977081#32 2603066369#32 1900175533#32 1135452741#32 := by kernel_rfl
  rw [gq7, eq7, h3]
theorem gq9 : vF firstF xq 9 = st8 2382687417#32 2241887071#32 3842179968#32 725748213#32 852110732#32 207977081#32 2603066369#32 1900175533#32 := by
  show stepF (vF firstF xq 8) (num 8 + spr xq 8) = _
  have h3 : stepF (st8 2241887071#32 3842179968#32 725748213#32 71342698#32 207977081#32 2603066369#32 1900175533#32 1135452741#32) (num 8 + 0#32) = st8 2382687417#32 2241887071#32 3842179968#32 725748213#32 852110732#32 207977081#32 2603066369#32 1900175533#32 := by kernel_rfl
  rw [gq8, eq8, h3]
theorem gq10 : vF firstF xq 10 = st8 2357671019#32 2382687417#32 2241887071#32 3842179968#32 482944406#32 852110732#32 207977081#32 2603066369#32 := by
  show stepF (vF firstF xq 9) (num 9 + spr xq 9) = _
  have h3 : stepF (st8 2382687417#32 2241887071#32 3842179968#32 725748213#32 852110732#32 207977081#32 2603066369#32 1900175533#32) (num 9 + 0#32) = st8 2357671019#32 2382687417#32 2241887071#32 3842179968#32 482944406#32 852110732#32 207977081#32 2603066369#32 := by kernel_rfl
  rw [gq9, eq9, h3]
theorem gq11 : vF firstF xq 11 = st8 1201185780#32 2357671019#32 2382687417#32 2241887071#32 1131095016#32 482944406#32 852110732#32 207977081#32 := by
  show stepF (vF firstF xq 10) (num 10 + spr xq 10) = _
  have h3 : stepF (st8 2357671019#32 2382687417#32 2241887071#32 3842179968#32 482944406#32 852110732#32 207977081#32 2603066369#32) (num 10 + 0#32) = st8 1201185780#32 2357671019#32 2382687417#32 2241887071#32 1131095016#32 482944406#32 852110732#32 207977081#32 := by kernel_rfl
  rw [gq10, eq10, h3]
theorem gq12 : vF firstF xq 12 = st8 4146054569#32 1201185780#32 2357671019#32 2382687417#32 2171590377#32 1131095016#32 482944406#32 852110732#32 := by
  show stepF (vF firstF xq 11) (num 11 + spr xq 11) = _
  have h3 : stepF (st8 1201185780#32 2357671019#32 2382687417#32 2241887071#32 1131095016#32 482944406#32 852110732#32 207977081#32) (num 11 + 0#32) = st8 4146054569#32 1201185780#32 2357671019#32 2382687417#32 2171590377#32 1131095016#32 482944406#32 852110732#32 := by kernel_rfl
  rw [gq11, eq11, h3]
theorem gq13 : vF firstF xq 13 = st8 2274437520#32 4146054569#32 1201185780#32 2357671019#32 509051416#32 2171590377#32 1131095016#32 482944406#32 := by
  show stepF (vF firstF xq 12) (num 12 + spr xq 12) = _
  have h3 : stepF (st8 4146054569#32 1201185780#32 2357671019#32 2382687417#32 2171590377#32 1131095016#32 482944406#32 852110732#32) (num 12 + 0#32) = st8 2274437520#32 4146054569#32 1201185780#32 2357671019#32 509051416#32 2171590377#32 1131095016#32 482944406#32 := by kernel_rfl
  rw [gq12, eq12, h3]
theorem gq14 : vF firstF xq 14 = st8 3643992854#32 2274437520#32 4146054569#32 1201185780#32 1952073950#32 509051416#32 2171590377#32 1131095016#32 := by
  show stepF (vF firstF xq 13) (num 13 + spr xq 13) = _
  have h3 : stepF (st8 2274437520#32 4146054569#32 1201185780#32 2357671019#32 509051416#32 2171590377#32 1131095016#32 482944406#32) (num 13 + 0#32) = st8 3643992854#32 2274437520#32 4146054569#32 1201185780#32 1952073950#32 509051416#32 2171590377#32 1131095016#32 := by kernel_rfl
  rw [gq13, eq13, h3]
theorem gq15 : vF firstF xq 15 = st8 3227803614#32 3643992854#32 2274437520#32 4146054569#32 194179596#32 1952073950#32 509051416#32 2171590377#32 := by
  show stepF (vF firstF xq 14) (num 14 + spr xq 14) = _
  have h3 : stepF (st8 3643992854#32 2274437520#32 4146054569#32 1201185780#32 1952073950#32 509051416#32 2171590377#32 1131095016#32) (num 14 + 0#32) = st8 3227803614#32 3643992854#32 2274437520#32 4146054569#32 194179596#32 1952073950#32 509051416#32 2171590377#32 := by kernel_rfl
  rw [gq14, eq14, h3]
theorem gq16 : vF firstF xq 16 = st8 2969183118#32 3227803614#32 3643992854#32 2274437520#32 123276749#32 194179596#32 1952073950#32 509051416#32 := by
  show stepF (vF firstF xq 15) (num 15 + spr xq 15) = _
  have h3 : stepF (st8 3227803614#32 3643992854#32 2274437520#32 4146054569#32 194179596#32 1952073950#32 509051416#32 2171590377#32) (num 15 + 24#32) = st8 2969183118#32 3227803614#32 3643992854#32 2274437520#32 123276749#32 194179596#32 1952073950#32 509051416#32 := by kernel_rfl
  rw [gq15, eq15, h3]
theorem gq17 : vF firstF xq 17 = st8 567974555#32 2969183118#32 3227803614#32 3643992854#32 2150900380#32 123276749#32 194179596#32 1952073950#32 := by
  show stepF (vF firstF xq 16) (num 16 + spr xq 16) = _
  have h3 : stepF (st8 2969183118#32 3227803614#32 3643992854#32 2274437520#32 123276749#32 194179596#32 1952073950#32 509051416#32) (num 16 + 1633837952#32) = st8 567974555#32 2969183118#32 3227803614#32 3643992854#32 2150900380#32 123276749#32 194179596#32 1952073950#32 := by kernel_rfl
  rw [gq16, eq16, h3]
theorem gq18 : vF firstF xq 18 = st8 3271285201#32 567974555#32 2969183118#32 3227803614#32 2221859924#32 2150900380#32 123276749#32 194179596#32 := by
  show stepF (vF firstF xq 17) (num 17 + spr xq 17) = _
  have h3 : stepF (st8 567974555#32 2969183118#32 3227803614#32 3643992854#32 2150900380#32 123276749#32 194179596#32 1952073950#32) (num 17 + 983040#32) = st8 3271285201#32 567974555#32 2969183118#32 3227803614#32 2221859924#32 2150900380#32 123276749#32 194179596#32 := by kernel_rfl
  rw [gq17, eq17, h3]
theorem gq19 : vF firstF xq 19 = st8 4269243327#32 3271285201#32 567974555#32 2969183118#32 3431569761#32 2221859924#32 2150900380#32 123276749#32 := by
  show stepF (vF firstF xq 18) (num 18 + spr xq 18) = _
  have h3 : stepF (st8 3271285201#32 567974555#32 2969183118#32 3227803614#32 2221859924#32 2150900380#32 123276749#32 194179596#32) (num 18 + 2108187653#32) = st8 4269243327#32 3271285201#32 567974555#32 2969183118#32 3431569761#32 2221859924#32 2150900380#32 123276749#32 := by kernel_rfl
  rw [gq18, eq18, h3]
theorem gq20 : vF firstF xq 20 = st8 3790736435#32 4269243327#32 3271285201#32 567974555#32 2959311225#32 3431569761#32 2221859924#32 2150900380#32 := by
  show stepF (vF firstF xq 19) (num 19 + spr xq 19) = _
  have h3 : stepF (st8 4269243327#32 3271285201#32 567974555#32 2969183118#32 3431569761#32 2221859924#32 2150900380#32 123276749#32) (num 19 + 1610613702#32) = st8 3790736435#32 4269243327#32 3271285201#32 567974555#32 2959311225#32 3431569761#32 2221859924#32 2150900380#32 := by kernel_rfl
  rw [gq19, eq19, h3]
theorem gq21 : vF firstF xq 21 = st8 2647034723#32 3790736435#32 4269243327#32 3271285201#32 2329577776#32 2959311225#32 3431569761#32 2221859924#32 := by
  show stepF (vF firstF xq 20) (num 20 + spr xq 20) = _
  have h3 : stepF (st8 3790736435#32 4269243327#32 3271285201#32 567974555#32 2959311225#32 3431569761#32 2221859924#32 2150900380#32) (num 20 + 1050508152#32) = st8 2647034723#32 3790736435#32 4269243327#32 3271285201#32 2329577776#32 2959311225#32 3431569761#32 2221859924#32 := by kernel_rfl
  rw [gq20, eq20, h3]
theorem gq22 : vF firstF xq 22 = st8 3261099373#32 2647034723#32 3790736435#32 4269243327#32 3777329520#32 2329577776#32 2959311225#32 3431569761#32 := by
  show stepF (vF firstF xq 21) (num 21 + spr xq 21) = _
  have h3 : stepF (st8 2647034723#32 3790736435#32 4269243327#32 3271285201#32 2329577776#32 2959311225#32 3431569761#32 2221859924#32) (num 21 + 25426944#32) = st8 3261099373#32 2647034723#32 3790736435#32 4269243327#32 3777329520#32 2329577776#32 2959311225#32 3431569761#32 := by kernel_rfl
  rw [gq21, eq21, h3]
theorem gq23 : vF firstF xq 23 = st8 2812502591#32 3261099373#32 2647034723#32 3790736435#32 1240797514#32 3777329520#32 2329577776#32 2959311225#32 := by
  show stepF (vF firstF xq 22) (num 22 + spr xq 22) = _
  have h3 : stepF (st8 3261099373#32 2647034723#32 3790736435#32 4269243327#32 3777329520#32 2329577776#32 2959311225#32 3431569761#32) (num 22 + 316456923#32) = st8 2812502591#32 3261099373#32 2647034723#32 3790736435#32 1240797514#32 3777329520#32 2329577776#32 2959311225#32 := by kernel_rfl
  rw [gq22, eq22, h3]
theorem gq24 : vF firstF xq 24 = st8 3319086477#32 2812502591#32 3261099373#32 2647034723#32 2856829767#32 1240797514#32 3777329520#32 2329577776#32 := by
  show stepF (vF firstF xq 23) (num 23 + spr xq 23) = _
  have h3 : stepF (st8 2812502591#32 3261099373#32 2647034723#32 3790736435#32 1240797514#32 3777329520#32 2329577776#32 2959311225#32) (num 23 + 3806512014#32) = st8 3319086477#32 2812502591#32 3261099373#32 2647034723#32 2856829767#32 1240797514#32 3777329520#32 2329577776#32 := by kernel_rfl
  rw [gq23, eq23, h3]
theorem gq25 : vF firstF xq 25 = st8 472655928#32 3319086477#32 2812502591#32 3261099373#32 673443729#32 2856829767#32 1240797514#32 3777329520#32 := by
  show stepF (vF firstF xq 24) (num 24 + spr xq 24) = _
  have h3 : stepF (st8 3319086477#32 2812502591#32 3261099373#32 2647034723#32 2856829767#32 1240797514#32 3777329520#32 2329577776#32) (num 24 + 3357629466#32) = st8 472655928#32 3319086477#32 2812502591#32 3261099373#32 673443729#32 2856829767#32 1240797514#32 3777329520#32 := by kernel_rfl
  rw [gq24, eq24, h3]
theorem gq26 : vF firstF xq 26 = st8 3454534525#32 472655928#32 3319086477#32 2812502591#32 339230094#32 673443729#32 2856829767#32 1240797514#32 := by
  show stepF (vF firstF xq 25) (num 25 + spr xq 25) = _
  have h3 : stepF (st8 472655928#32 3319086477#32 2812502591#32 3261099373#32 673443729#32 2856829767#32 1240797514#32 3777329520#32) (num 25 + 3073800610#32) = st8 3454534525#32 472655928#32 3319086477#32 2812502591#32 339230094#32 673443729#32 2856829767#32 1240797514#32 := by kernel_rfl
  rw [gq25, eq25, h3]
theorem gq27 : vF firstF xq 27 = st8 3056518332#32 3454534525#32 472655928#32 3319086477#32 3343672598#32 339230094#32 673443729#32 2856829767#32 := by
  show stepF (vF firstF xq 26) (num 26 + spr xq 26) = _
  have h3 : stepF (st8 3454534525#32 472655928#32 3319086477#32 2812502591#32 339230094#32 673443729#32 2856829767#32 1240797514#32) (num 26 + 3854317833#32) = st8 3056518332#32 3454534525#32 472655928#32 3319086477#32 3343672598#32 339230094#32 673443729#32 2856829767#32 := by kernel_rfl
  rw [gq26, eq26, h3]
theorem gq28 : vF firstF xq 28 = st8 2010346792#32 3056518332#32 3454534525#32 472655928#32 3992961016#32 3343672598#32 339230094#32 673443729#32 := by
  show stepF (vF firstF xq 27) (num 27 + spr xq 27) = _
  have h3 : stepF (st8 3056518332#32 3454534525#32 472655928#32 3319086477#32 3343672598#32 339230094#32 673443729#32 2856829767#32) (num 27 + 845560923#32) = st8 2010346792#32 3056518332#32 3454534525#32 472655928#32 3992961016#32 3343672598#32 339230094#32 673443729#32 := by kernel_rfl
  rw [gq27, eq27, h3]
theorem gq29 : vF firstF xq 29 = st8 909411017#32 2010346792#32 3056518332#32 3454534525#32 1628611511#32 3992961016#32 3343672598#32 339230094#32 := by
  show stepF (vF firstF xq 28) (num 28 + spr xq 28) = _
  have h3 : stepF (st8 2010346792#32 3056518332#32 3454534525#32 472655928#32 3992961016#32 3343672598#32 339230094#32 673443729#32) (num 28 + 2636160359#32) = st8 909411017#32 2010346792#32 3056518332#32 3454534525#32 1628611511#32 3992961016#32 3343672598#32 339230094#32 := by kernel_rfl
  rw [gq28, eq28, h3]
theorem gq30 : vF firstF xq 30 = st8 2684750640#32 909411017#32 2010346792#32 3056518332#32 2917635127#32 1628611511#32 3992961016#32 3343672598#32 := by
  show stepF (vF firstF xq 29) (num 29 + spr xq 29) = _
  have h3 : stepF (st8 909411017#32 2010346792#32 3056518332#32 3454534525#32 1628611511#32 3992961016#32 3343672598#32 339230094#32) (num 29 + 3968280267#32) = st8 2684750640#32 909411017#32 2010346792#32 3056518332#32 2917635127#32 1628611511#32 3992961016#32 3343672598#32 := by kernel_rfl
  rw [gq29, eq29, h3]
theorem gq31 : vF firstF xq 31 = st8 3935906338#32 2684750640#32 909411017#32 2010346792#32 17410874#32 2917635127#32 1628611511#32 3992961016#32 := by
  show stepF (vF firstF xq 30) (num 30 + spr xq 30) = _
  have h3 : stepF (st8 2684750640#32 909411017#32 2010346792#32 3056518332#32 2917635127#32 1628611511#32 3992961016#32 3343672598#32) (num 30 + 1881225380#32) = st8 3935906338#32 2684750640#32 909411017#32 2010346792#32 17410874#32 2917635127#32 1628611511#32 3992961016#32 := by kernel_rfl
  rw [gq30, eq30, h3]
theorem gq32 : vF firstF xq 32 = st8 1941126133#32 3935906338#32 2684750640#32 909411017#32 3126399250#32 17410874#32 2917635127#32 1628611511#32 := by
  show stepF (vF firstF xq 31) (num 31 + spr xq 31) = _
  have h3 : stepF (st8 3935906338#32 2684750640#32 909411017#32 2010346792#32 17410874#32 2917635127#32 1628611511#32 3992961016#32) (num 31 + 3552024379#32) = st8 1941126133#32 3935906338#32 2684750640#32 909411017#32 3126399250#32 17410874#32 2917635127#32 1628611511#32 := by kernel_rfl
  rw [gq31, eq31, h3]
theorem gq33 : vF firstF xq 33 = st8 2564891911#32 1941126133#32 3935906338#32 2684750640#32 2631529974#32 3126399250#32 17410874#32 2917635127#32 := by
  show stepF (vF firstF xq 32) (num 32 + spr xq 32) = _
  have h3 : stepF (st8 1941126133#32 3935906338#32 2684750640#32 909411017#32 3126399250#32 17410874#32 2917635127#32 1628611511#32) (num 32 + 2482346367#32) = st8 2564891911#32 1941126133#32 3935906338#32 2684750640#32 2631529974#32 3126399250#32 17410874#32 2917635127#32 := by kernel_rfl
  rw [gq32, eq32, h3]
theorem gq34 : vF firstF xq 34 = st8 4267724277#32 2564891911#32 1941126133#32 3935906338#32 1495571923#32 2631529974#32 3126399250#32 17410874#32 := by
  show stepF (vF firstF xq 33) (num 33 + spr xq 33) = _
  have h3 : stepF (st8 2564891911#32 1941126133#32 3935906338#32 2684750640#32 2631529974#32 3126399250#32 17410874#32 2917635127#32) (num 33 + 996719219#32) = st8 4267724277#32 2564891911#32 1941126133#32 3935906338#32 1495571923#32 2631529974#32 3126399250#32 17410874#32 := by kernel_rfl
  rw [gq33, eq33, h3]
theorem gq35 : vF firstF xq 35 = st8 2846323596#32 4267724277#32 2564891911#32 1941126133#32 140458035#32 1495571923#32 2631529974#32 3126399250#32 := by
  show stepF (vF firstF xq 34) (num 34 + spr xq 34) = _
  have h3 : stepF (st8 4267724277#32 2564891911#32 1941126133#32 3935906338#32 1495571923#32 2631529974#32 3126399250#32 17410874#32) (num 34 + 2952069057#32) = st8 2846323596#32 4267724277#32 2564891911#32 1941126133#32 140458035#32 1495571923#32 2631529974#32 3126399250#32 := by kernel_rfl
  rw [gq34, eq34, h3]
theorem gq36 : vF firstF xq 36 = st8 1705037796#32 2846323596#32 4267724277#32 2564891911#32 4105175766#32 140458035#32 1495571923#32 2631529974#32 := by
  show stepF (vF firstF xq 35) (num 35 + spr xq 35) = _
  have h3 : stepF (st8 2846323596#32 4267724277#32 2564891911#32 1941126133#32 140458035#32 1495571923#32 2631529974#32 3126399250#32) (num 35 + 4043988066#32) = st8 1705037796#32 2846323596#32 4267724277#32 2564891911#32 4105175766#32 140458035#32 1495571923#32 2631529974#32 := by kernel_rfl
  rw [gq35, eq35, h3]
theorem gq37 : vF firstF xq 37 = st8 1101421745#32 1705037796#32 2846323596#32 4267724277#32 124953195#32 4105175766#32 140458035#32 1495571923#32 := by
  show stepF (vF firstF xq 36) (num 36 + spr xq 36) = _
  have h3 : stepF (st8 1705037796#32 2846323596#32 4267724277#32 2564891911#32 4105175766#32 140458035#32 1495571923#32 2631529974#32) (num 36 + 176896406#32) = st8 1101421745#32 1705037796#32 2846323596#32 4267724277#32 124953195#32 4105175766#32 140458035#32 1495571923#32 := by kernel_rfl
  rw [gq36, eq36, h3]
theorem gq38 : vF firstF xq 38 = st8 887035396#32 1101421745#32 1705037796#32 2846323596#32 2768741693#32 124953195#32 4105175766#32 140458035#32 := by
  show stepF (vF firstF xq 37) (num 37 + spr xq 37) = _
  have h3 : stepF (st8 1101421745#32 1705037796#32 2846323596#32 4267724277#32 124953195#32 4105175766#32 140458035#32 1495571923#32) (num 37 + 1924104970#32) = st8 887035396#32 1101421745#32 1705037796#32 2846323596#32 2768741693#32 124953195#32 4105175766#32 140458035#32 := by kernel_rfl
  rw [gq37, eq37, h3]
theorem gq39 : vF firstF xq 39 = st8 1841658506#32 887035396#32 1101421745#32 1705037796#32 4034403272#32 2768741693#32 124953195#32 4105175766#32 := by
  show stepF (vF firstF xq 38) (num 38 + spr xq 38) = _
  have h3 : stepF (st8 887035396#32 1101421745#32 1705037796#32 2846323596#32 2768741693#32 124953195#32 4105175766#32 140458035#32) (num 38 + 2483675966#32) = st8 1841658506#32 887035396#32 1101421745#32 1705037796#32 4034403272#32 2768741693#32 124953195#32 4105175766#32 := by kernel_rfl
  rw [gq38, eq38, h3]
theorem gq40 : vF firstF xq 40 = st8 2045405306#32 1841658506#32 887035396#32 1101421745#32 519815328#32 4034403272#32 2768741693#32 124953195#32 := by
  show stepF (vF firstF xq 39) (num 39 + spr xq 39) = _
  have h3 : stepF (st8 1841658506#32 887035396#32 1101421745#32 1705037796#32 4034403272#32 2768741693#32 124953195#32 4105175766#32) (num 39 + 610538786#32) = st8 2045405306#32 1841658506#32 887035396#32 1101421745#32 519815328#32 4034403272#32 2768741693#32 124953195#32 := by kernel_rfl
  rw [gq39, eq39, h3]
theorem gq41 : vF firstF xq 41 = st8 3597076326#32 2045405306#32 1841658506#32 887035396#32 641019235#32 519815328#32 4034403272#32 2768741693#32 := by
  show stepF (vF firstF xq 40) (num 40 + spr xq 40) = _
  have h3 : stepF (st8 2045405306#32 1841658506#32 887035396#32 1101421745#32 519815328#32 4034403272#32 2768741693#32 124953195#32) (num 40 + 2672279444#32) = st8 3597076326#32 2045405306#32 1841658506#32 887035396#32 641019235#32 519815328#32 4034403272#32 2768741693#32 := by kernel_rfl
  rw [gq40, eq40, h3]
theorem gq42 : vF firstF xq 42 = st8 3745932591#32 3597076326#32 2045405306#32 1841658506#32 2206934801#32 641019235#32 519815328#32 4034403272#32 := by
  show stepF (vF firstF xq 41) (num 41 + spr xq 41) = _
  have h3 : stepF (st8 3597076326#32 2045405306#32 1841658506#32 887035396#32 641019235#32 519815328#32 4034403272#32 2768741693#32) (num 41 + 4037431130#32) = st8 3745932591#32 3597076326#32 2045405306#32 1841658506#32 2206934801#32 641019235#32 519815328#32 4034403272#32 := by kernel_rfl
  rw [gq41, eq41, h3]
theorem gq43 : vF firstF xq 43 = st8 397020670#32 3745932591#32 3597076326#32 2045405306#32 3737995029#32 2206934801#32 641019235#32 519815328#32 := by
  show stepF (vF firstF xq 42) (num 42 + spr xq 42) = _
  have h3 : stepF (st8 3745932591#32 3597076326#32 2045405306#32 1841658506#32 2206934801#32 641019235#32 519815328#32 4034403272#32) (num 42 + 1042573945#32) = st8 397020670#32 3745932591#32 3597076326#32 2045405306#32 3737995029#32 2206934801#32 641019235#32 519815328#32 := by kernel_rfl
  rw [gq42, eq42, h3]
theorem gq44 : vF firstF xq 44 = st8 2638983059#32 397020670#32 3745932591#32 3597076326#32 4255271982#32 3737995029#32 2206934801#32 641019235#32 := by
  show stepF (vF firstF xq 43) (num 43 + spr xq 43) = _
  have h3 : stepF (st8 397020670#32 3745932591#32 3597076326#32 2045405306#32 3737995029#32 2206934801#32 641019235#32 519815328#32) (num 43 + 657669027#32) = st8 2638983059#32 397020670#32 3745932591#32 3597076326#32 4255271982#32 3737995029#32 2206934801#32 641019235#32 := by kernel_rfl
  rw [gq43, eq43, h3]
theorem gq45 : vF firstF xq 45 = st8 643991573#32 2638983059#32 397020670#32 3745932591#32 2819559920#32 4255271982#32 3737995029#32 2206934801#32 := by
  show stepF (vF firstF xq 44) (num 44 + spr xq 44) = _
  have h3 : stepF (st8 2638983059#32 397020670#32 3745932591#32 3597076326#32 4255271982#32 3737995029#32 2206934801#32 641019235#32) (num 44 + 206005234#32) = st8 643991573#32 2638983059#32 397020670#32 3745932591#32 2819559920#32 4255271982#32 3737995029#32 2206934801#32 := by kernel_rfl
  rw [gq44, eq44, h3]
theorem gq46 : vF firstF xq 46 = st8 1923828625#32 643991573#32 2638983059#32 397020670#32 3077922209#32 2819559920#32 4255271982#32 3737995029#32 := by
  show stepF (vF firstF xq 45) (num 45 + spr xq 45) = _
  have h3 : stepF (st8 643991573#32 2638983059#32 397020670#32 3745932591#32 2819559920#32 4255271982#32 3737995029#32 2206934801#32) (num 45 + 2215296807#32) = st8 1923828625#32 643991573#32 2638983059#32 397020670#32 3077922209#32 2819559920#32 4255271982#32 3737995029#32 := by kernel_rfl
  rw [gq45, eq45, h3]
theorem gq47 : vF firstF xq 47 = st8 2706117808#32 1923828625#32 643991573#32 2638983059#32 3581645993#32 3077922209#32 2819559920#32 4255271982#32 := by
  show stepF (vF firstF xq 46) (num 46 + spr xq 46) = _
  have h3 : stepF (st8 1923828625#32 643991573#32 2638983059#32 397020670#32 3077922209#32 2819559920#32 4255271982#32 3737995029#32) (num 46 + 2049510749#32) = st8 2706117808#32 1923828625#32 643991573#32 2638983059#32 3581645993#32 3077922209#32 2819559920#32 4255271982#32 := by kernel_rfl
  rw [gq46, eq46, h3]
theorem gq48 : vF firstF xq 48 = st8 1098003085#32 2706117808#32 1923828625#32 643991573#32 4274981830#32 3581645993#32 3077922209#32 2819559920#32 := by
  show stepF (vF firstF xq 47) (num 47 + spr xq 47) = _
  have h3 : stepF (st8 2706117808#32 1923828625#32 643991573#32 2638983059#32 3581645993#32 3077922209#32 2819559920#32 4255271982#32) (num 47 + 106709978#32) = st8 1098003085#32 2706117808#32 1923828625#32 643991573#32 4274981830#32 3581645993#32 3077922209#32 2819559920#32 := by kernel_rfl
  rw [gq47, eq47, h3]
theorem gq49 : vF firstF xq 49 = st8 91585771#32 1098003085#32 2706117808#32 1923828625#32 3178315832#32 4274981830#32 3581645993#32 3077922209#32 := by
  show stepF (vF firstF xq 48) (num 48 + spr xq 48) = _
  have h3 : stepF (st8 1098003085#32 2706117808#32 1923828625#32 643991573#32 4274981830#32 3581645993#32 3077922209#32 2819559920#32) (num 48 + 4215179723#32) = st8 91585771#32 1098003085#32 2706117808#32 1923828625#32 3178315832#32 4274981830#32 3581645993#32 3077922209#32 := by kernel_rfl
  rw [gq48, eq48, h3]
theorem gq50 : vF firstF xq 50 = st8 4045142696#32 91585771#32 1098003085#32 2706117808#32 1851537676#32 3178315832#32 4274981830#32 3581645993#32 := by
  show stepF (vF firstF xq 49) (num 49 + spr xq 49) = _
  have h3 : stepF (st8 91585771#32 1098003085#32 2706117808#32 1923828625#32 3178315832#32 4274981830#32 3581645993#32 3077922209#32) (num 49 + 3430291419#32) = st8 4045142696#32 91585771#32 1098003085#32 2706117808#32 1851537676#32 3178315832#32 4274981830#32 3581645993#32 := by kernel_rfl
  rw [gq49, eq49, h3]
theorem gq51 : vF firstF xq 51 = st8 2047150241#32 4045142696#32 91585771#32 1098003085#32 1391578359#32 1851537676#32 3178315832#32 4274981830#32 := by
  show stepF (vF firstF xq 50) (num 50 + spr xq 50) = _
  have h3 : stepF (st8 4045142696#32 91585771#32 1098003085#32 2706117808#32 1851537676#32 3178315832#32 4274981830#32 3581645993#32) (num 50 + 3118885940#32) = st8 2047150241#32 4045142696#32 91585771#32 1098003085#32 1391578359#32 1851537676#32 3178315832#32 4274981830#32 := by kernel_rfl
  rw [gq50, eq50, h3]
theorem gq52 : vF firstF xq 52 = st8 2288941602#32 2047150241#32 4045142696#32 91585771#32 1227037726#32 1391578359#32 1851537676#32 3178315832#32 := by
  show stepF (vF firstF xq 51) (num 51 + spr xq 51) = _
  have h3 : stepF (st8 2047150241#32 4045142696#32 91585771#32 1098003085#32 1391578359#32 1851537676#32 3178315832#32 4274981830#32) (num 51 + 2845390439#32) = st8 2288941602#32 2047150241#32 4045142696#32 91585771#32 1227037726#32 1391578359#32 1851537676#32 3178315832#32 := by kernel_rfl
  rw [gq51, eq51, h3]
theorem gq53 : vF firstF xq 53 = st8 270520975#32 2288941602#32 2047150241#32 4045142696#32 1386118400#32 1227037726#32 1391578359#32 1851537676#32 := by
  show stepF (vF firstF xq 52) (num 52 + spr xq 52) = _
  have h3 : stepF (st8 2288941602#32 2047150241#32 4045142696#32 91585771#32 1227037726#32 1391578359#32 1851537676#32 3178315832#32) (num 52 + 2226839261#32) = st8 270520975#32 2288941602#32 2047150241#32 4045142696#32 1386118400#32 1227037726#32 1391578359#32 1851537676#32 := by kernel_rfl
  rw [gq52, eq52, h3]
theorem gq54 : vF firstF xq 54 = st8 4117770203#32 270520975#32 2288941602#32 2047150241#32 2672265155#32 1386118400#32 1227037726#32 1391578359#32 := by
  show stepF (vF firstF xq 53) (num 53 + spr xq 53) = _
  have h3 : stepF (st8 270520975#32 2288941602#32 2047150241#32 4045142696#32 1386118400#32 1227037726#32 1391578359#32 1851537676#32) (num 53 + 3256115900#32) = st8 4117770203#32 270520975#32 2288941602#32 2047150241#32 2672265155#32 1386118400#32 1227037726#32 1391578359#32 := by kernel_rfl
  rw [gq53, eq53, h3]
theorem gq55 : vF firstF xq 55 = st8 1053056219#32 4117770203#32 270520975#32 2288941602#32 3842906959#32 2672265155#32 1386118400#32 1227037726#32 := by
  show stepF (vF firstF xq 54) (num 54 + spr xq 54) = _
  have h3 : stepF (st8 4117770203#32 270520975#32 2288941602#32 2047150241#32 2672265155#32 1386118400#32 1227037726#32 1391578359#32) (num 54 + 344409900#32) = st8 1053056219#32 4117770203#32 270520975#32 2288941602#32 3842906959#32 2672265155#32 1386118400#32 1227037726#32 := by kernel_rfl
  rw [gq54, eq54, h3]
theorem gq56 : vF firstF xq 56 = st8 952932627#32 1053056219#32 4117770203#32 270520975#32 1422599787#32 3842906959#32 2672265155#32 1386118400#32 := by
  show stepF (vF firstF xq 55) (num 55 + spr xq 55) = _
  have h3 : stepF (st8 1053056219#32 4117770203#32 270520975#32 2288941602#32 3842906959#32 2672265155#32 1386118400#32 1227037726#32) (num 55 + 2987358873#32) = st8 952932627#32 1053056219#32 4117770203#32 270520975#32 1422599787#32 3842906959#32 2672265155#32 1386118400#32 := by kernel_rfl
  rw [gq55, eq55, h3]
theorem gq57 : vF firstF xq 57 = st8 4241590395#32 952932627#32 1053056219#32 4117770203#32 2606665836#32 1422599787#32 3842906959#32 2672265155#32 := by
  show stepF (vF firstF xq 56) (num 56 + spr xq 56) = _
  have h3 : stepF (st8 952932627#32 1053056219#32 4117770203#32 270520975#32 1422599787#32 3842906959#32 2672265155#32 1386118400#32) (num 56 + 4015503821#32) = st8 4241590395#32 952932627#32 1053056219#32 4117770203#32 2606665836#32 1422599787#32 3842906959#32 2672265155#32 := by kernel_rfl
  rw [gq56, eq56, h3]
theorem gq58 : vF firstF xq 58 = st8 3227702383#32 4241590395#32 952932627#32 1053056219#32 2118385806#32 2606665836#32 1422599787#32 3842906959#32 := by
  show stepF (vF firstF xq 57) (num 57 + spr xq 57) = _
  have h3 : stepF (st8 4241590395#32 952932627#32 1053056219#32 4117770203#32 2606665836#32 1422599787#32 3842906959#32 2672265155#32) (num 57 + 3957764664#32) = st8 3227702383#32 4241590395#32 952932627#32 1053056219#32 2118385806#32 2606665836#32 1422599787#32 3842906959#32 := by kernel_rfl
  rw [gq57, eq57, h3]
theorem gq59 : vF firstF xq 59 = st8 4290184306#32 3227702383#32 4241590395#32 952932627#32 1837350854#32 2118385806#32 2606665836#32 1422599787#32 := by
  show stepF (vF firstF xq 58) (num 58 + spr xq 58) = _
  have h3 : stepF (st8 3227702383#32 4241590395#32 952932627#32 1053056219#32 2118385806#32 2606665836#32 1422599787#32 3842906959#32) (num 58 + 2682456414#32) = st8 4290184306#32 3227702383#32 4241590395#32 952932627#32 1837350854#32 2118385806#32 2606665836#32 1422599787#32 := by kernel_rfl
  rw [gq58, eq58, h3]
theorem gq60 : vF firstF xq 60 = st8 3064893439#32 4290184306#32 3227702383#32 4241590395#32 2988158269#32 1837350854#32 2118385806#32 2606665836#32 := by
  show stepF (vF firstF xq 59) (num 59 + spr xq 59) = _
  have h3 : stepF (st8 4290184306#32 3227702383#32 4241590395#32 952932627#32 1837350854#32 2118385806#32 2606665836#32 1422599787#32) (num 59 + 2025622859#32) = st8 3064893439#32 4290184306#32 3227702383#32 4241590395#32 2988158269#32 1837350854#32 2118385806#32 2606665836#32 := by kernel_rfl
  rw [gq59, eq59, h3]
theorem gq61 : vF firstF xq 61 = st8 3093179625#32 3064893439#32 4290184306#32 3227702383#32 2518632596#32 2988158269#32 1837350854#32 2118385806#32 := by
  show stepF (vF firstF xq 60) (num 60 + spr xq 60) = _
  have h3 : stepF (st8 3064893439#32 4290184306#32 3227702383#32 4241590395#32 2988158269#32 1837350854#32 2118385806#32 2606665836#32) (num 60 + 2755645205#32) = st8 3093179625#32 3064893439#32 4290184306#32 3227702383#32 2518632596#32 2988158269#32 1837350854#32 2118385806#32 := by kernel_rfl
  rw [gq60, eq60, h3]
theorem gq62 : vF firstF xq 62 = st8 80891244#32 3093179625#32 3064893439#32 4290184306#32 2492278198#32 2518632596#32 2988158269#32 1837350854#32 := by
  show stepF (vF firstF xq 61) (num 61 + spr xq 61) = _
  have h3 : stepF (st8 3093179625#32 3064893439#32 4290184306#32 3227702383#32 2518632596#32 2988158269#32 1837350854#32 2118385806#32) (num 61 + 1720397816#32) = st8 80891244#32 3093179625#32 3064893439#32 4290184306#32 2492278198#32 2518632596#32 2988158269#32 1837350854#32 := by kernel_rfl
  rw [gq61, eq61, h3]
theorem gq63 : vF firstF xq 63 = st8 3550093669#32 80891244#32 3093179625#32 3064893439#32 4212265488#32 2492278198#32 2518632596#32 2988158269#32 := by
  show stepF (vF firstF xq 62) (num 62 + spr xq 62) = _
  have h3 : stepF (st8 80891244#32 3093179625#32 3064893439#32 4290184306#32 2492278198#32 2518632596#32 2988158269#32 1837350854#32) (num 62 + 4004225740#32) = st8 3550093669#32 80891244#32 3093179625#32 3064893439#32 4212265488#32 2492278198#32 2518632596#32 2988158269#32 := by kernel_rfl
  rw [gq62, eq62, h3]
theorem gq64 : vF firstF xq 64 = st8 1349398616#32 3550093669#32 80891244#32 3093179625#32 1593118500#32 4212265488#32 2492278198#32 2518632596#32 := by
  show stepF (vF firstF xq 63) (num 63 + spr xq 63) = _
  have h3 : stepF (st8 3550093669#32 80891244#32 3093179625#32 3064893439#32 4212265488#32 2492278198#32 2518632596#32 2988158269#32) (num 63 + 313650667#32) = st8 1349398616#32 3550093669#32 80891244#32 3093179625#32 1593118500#32 4212265488#32 2492278198#32 2518632596#32 := by kernel_rfl
  rw [gq63, eq63, h3]
theorem rq : be4 (mixF firstF xq 0) = [186, 120, 22, 191] := by
  have h4 : mixF firstF xq 0 = 3128432319#32 := by
    show firstF 0 + vF firstF xq 64 0 = _
    have h3 : firstF 0 + (st8 1349398616#32 3550093669#32 80891244#32 3093179625#32 1593118500#32 4212265488#32 2492278198#32 2518632596#32) 0 = 3128432319#32 := by kernel_rfl
    rw [gq64, h3]
  have h5 : be4 3128432319#32 = [186, 120, 22, 191] := by first | rfl | decide
  rw [h4, h5]
theorem outF_four (h : Nat → BitVec 32) : (outF h 8).take 4 = be4 (h 0) := by
  have key : ∀ k, (outF h (k + 1)).take 4 = be4 (h 0) := by
    intro k
    induction k with
    | zero => rfl
    | succ k ih =>
      show (outF h (k + 1) ++ be4 (h (k + 1))).take 4 = _
      rw [List.take_append_of_le_length (by rw [outF_len]; omega), ih]
  exact key 7
theorem sum_none : (sumL []).take 4 = [227, 176, 196, 66] := by
  rw [sumL_short [] (by simp) (by kernel_rfl), outF_four]
  exact rp
theorem sum_abc : (sumL [97, 98, 99]).take 4 = [186, 120, 22, 191] := by
  rw [sumL_short [97, 98, 99] (by simp) (by kernel_rfl), outF_four]
  exact rq
theorem done_len (s : S) : s.done.length = 32 := outF_len _ 8
theorem sumL_len (xs : List Int) : (sumL xs).length = 32 := done_len _
theorem done_rng (s : S) : ∀ z ∈ s.done, 0 ≤ z ∧ z ≤ 255 := outF_rng _ 8
theorem pad3 : (padL 3).length = 61 := by kernel_rfl
end Go.Proofs.YtdenbbfmiadcbaaDoor
