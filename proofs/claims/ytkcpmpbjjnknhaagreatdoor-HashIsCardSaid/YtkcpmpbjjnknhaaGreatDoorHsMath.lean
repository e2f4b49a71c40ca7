/-
  The hash of a tree: pure.
-/
import Derived.Test.YtkcpmpbjjnknhaaGreatDoorRsFacts
import Derived.Test.YtkcpmpbjjnknhaaGreatDoorHsSum
namespace Go.Proofs.YtkcpmpbjjnknhaaGreatDoor
open Go.ChangeShapes Go.WideShapes Go.ChangeAt Go.RowKit
set_option linter.unusedVariables false

/-- A node's hash, by its children's. -/
def hsF (t : List Nd) (x : Int) (l r : List Int) : List Int := sumL (if x % 2 = 0 then ofLeafO (x / 2) (atN t x.toNat) else ofInnerO (atN t x.toNat) l r)
def hsN : Nat → List Nd → Int → List Int
  | 0, _, _ => []
  | n + 1, t, x => hsF t x (hsN n t (leftI x t.length)) (hsN n t (rightI x t.length))
def hsL (t : List Nd) (x : Int) : List Int := hsN 7 t x
theorem hsF_len (t : List Nd) (x : Int) (l r : List Int) : (hsF t x l r).length = 32 := sumL_length _
theorem hsL_len (t : List Nd) (x : Int) : (hsL t x).length = 32 := hsF_len t x _ _
theorem hs_even {t : List Nd} {x : Int} {l r : List Int} (h : x % 2 = 0) : hsF t x l r = sumL (ofLeafO (x / 2) (atN t x.toNat)) := by
  unfold hsF
  rw [if_pos h]
theorem hs_odd {t : List Nd} {x : Int} {l r : List Int} (h : ¬ x % 2 = 0) : hsF t x l r = sumL (ofInnerO (atN t x.toNat) l r) := by
  unfold hsF
  rw [if_neg h]
theorem hs_more : ∀ (n : Nat) (t : List Nd) (x : Int), isN x (t.length : Int) → lvl x < n → hsN (n + 1) t x = hsN n t x
  | 0, t, x, h, hl => by
    have := (kids h).1
    omega
  | n + 1, t, x, h, hl => by
    show hsF t x (hsN (n + 1) t _) (hsN (n + 1) t _) = hsF t x (hsN n t _) (hsN n t _)
    by_cases e : x % 2 = 0
    · rw [hs_even e, hs_even e]
    · obtain ⟨⟨a, b⟩, c, d⟩ := odd_kids h e
      rw [hs_more n t _ a (by omega), hs_more n t _ c (by omega)]
theorem hs_eq {t : List Nd} {x : Int} (h : isN x (t.length : Int)) : hsL t x = hsF t x (hsL t (leftI x t.length)) (hsL t (rightI x t.length)) :=
  (hs_more 7 t x h (by have := (kids h).2.1; omega)).symm
theorem hs_leaf {t : List Nd} {x : Int} (h : isN x (t.length : Int)) (e : x % 2 = 0) : hsL t x = sumL (ofLeafO (x / 2) (atN t x.toNat)) := by
  rw [hs_eq h, hs_even e]
theorem hs_inner {t : List Nd} {x : Int} (h : isN x (t.length : Int)) (e : ¬ x % 2 = 0) : hsL t x = sumL (ofInnerO (atN t x.toNat) (hsL t (leftI x t.length)) (hsL t (rightI x t.length))) := by
  rw [hs_eq h, hs_odd e]
/-- Of: of a tree. -/
def ofH (t : List Nd) (x : Int) : List Int := if isN x (t.length : Int) then hsL t x else []
theorem ofH_yes {t : List Nd} {x : Int} (h : isN x (t.length : Int)) : ofH t x = hsL t x := if_pos h
theorem ofH_no {t : List Nd} {x : Int} (h : ¬ isN x (t.length : Int)) : ofH t x = [] := if_neg h
theorem ofH_len (t : List Nd) (x : Int) : (ofH t x).length ≤ 32 := by
  unfold ofH
  split
  · exact Nat.le_of_eq (hsL_len t x)
  · exact Nat.zero_le _
/-- All: of the first n nodes. -/
def allN (t : List Nd) (n : Nat) : List (List Int) := (List.range n).map fun i : Nat => hsL t (i : Int)
def allH (t : List Nd) : List (List Int) := allN t t.length
theorem allN_s (t : List Nd) (n : Nat) : allN t (n + 1) = allN t n ++ [hsL t (n : Int)] := by
  unfold allN
  rw [List.range_succ, List.map_append]
  rfl
theorem allN_len (t : List Nd) (n : Nat) : (allN t n).length = n := by simp [allN]
theorem allH_len (t : List Nd) : (allH t).length = t.length := allN_len t _
/-- A node that is cut. -/
def cutN (l : List Int) (n : Nd) : Nd := ⟨n.kind, n.leaf, ⟨n.inner.enc, n.inner.hash, cutK n.inner.unm l⟩⟩
/-- Is the leaf at a place one of these? -/
def goneAt (l : List Int) (i : Nat) : Prop := i % 2 = 0 ∧ ((i / 2 : Nat) : Int) ∈ l
instance (l : List Int) (i : Nat) : Decidable (goneAt l i) := by unfold goneAt; infer_instance
def zapN (l : List Int) (i : Nat) (n : Nd) : Nd := if goneAt l i then Nd.zero else n
def zapL (l : List Int) (t : List Nd) : List Nd := t.mapIdx (zapN l)
/-- The first k are cut. -/
def cutL (l : List Int) (k : Nat) (t : List Nd) : List Nd := t.mapIdx fun i n => if i < k then cutN l n else n
def dropL (l : List Int) (t : List Nd) : List Nd := t.mapIdx fun i n => cutN l (zapN l i n)
theorem zapL_len (l : List Int) (t : List Nd) : (zapL l t).length = t.length := List.length_mapIdx
theorem cutL_len (l : List Int) (k : Nat) (t : List Nd) : (cutL l k t).length = t.length := List.length_mapIdx
theorem dropL_len (l : List Int) (t : List Nd) : (dropL l t).length = t.length := List.length_mapIdx
theorem atN_mapIdx {t : List Nd} {f : Nat → Nd → Nd} {i : Nat} (h : i < t.length) : atN (t.mapIdx f) i = f i (atN t i) := by
  rw [atN_eq, atN_eq, List.getElem?_mapIdx, List.getElem?_eq_getElem h]
  rfl
theorem drop_at {l : List Int} {t : List Nd} {i : Nat} (h : i < t.length) : atN (dropL l t) i = cutN l (zapN l i (atN t i)) := atN_mapIdx h
theorem zap_at {l : List Int} {t : List Nd} {i : Nat} (h : i < t.length) : atN (zapL l t) i = zapN l i (atN t i) := atN_mapIdx h
theorem cutL_at {l : List Int} {k : Nat} {t : List Nd} {i : Nat} (h : i < t.length) : atN (cutL l k t) i = if i < k then cutN l (atN t i) else atN t i := atN_mapIdx h
theorem zap_none (t : List Nd) : zapL [] t = t := list_atN (zapL_len _ _) fun i hi => by
  rw [zapL_len] at hi
  rw [zap_at hi, zapN, if_neg]
  exact fun q => by cases q.2
theorem zap_snoc {l : List Int} {t : List Nd} {i : Int} (h0 : 0 ≤ i) (h1 : i < leavesA t) : (zapL l t).set (2 * i).toNat Nd.zero = zapL (l ++ [i]) t := by
  have hl : leavesA t = (t.length + 1) / 2 := rfl
  refine list_atN (by rw [List.length_set, zapL_len, zapL_len]) fun j hj => ?_
  rw [List.length_set, zapL_len] at hj
  rw [atN_set (by rw [zapL_len]; omega), zap_at hj, zap_at hj]
  by_cases e : j = (2 * i).toNat
  · rw [if_pos e, zapN, if_pos ⟨by omega, List.mem_append.2 (.inr (List.mem_singleton.2 (by omega)))⟩]
  · rw [if_neg e, zapN, zapN]
    by_cases g : goneAt l j
    · rw [if_pos g, if_pos ⟨g.1, List.mem_append.2 (.inl g.2)⟩]
    · rw [if_neg g, if_neg]
      intro q
      rcases List.mem_append.1 q.2 with z | z
      · exact g ⟨q.1, z⟩
      · have := List.mem_singleton.1 z
        have := q.1
        omega
theorem zap_out {l : List Int} {t : List Nd} {i : Int} (h1 : ¬ i < leavesA t) : zapL l t = zapL (l ++ [i]) t := by
  have hl : leavesA t = (t.length + 1) / 2 := rfl
  refine list_atN (by rw [zapL_len, zapL_len]) fun j hj => ?_
  rw [zapL_len] at hj
  rw [zap_at hj, zap_at hj, zapN, zapN]
  by_cases g : goneAt l j
  · rw [if_pos g, if_pos ⟨g.1, List.mem_append.2 (.inl g.2)⟩]
  · rw [if_neg g, if_neg]
    intro q
    rcases List.mem_append.1 q.2 with z | z
    · exact g ⟨q.1, z⟩
    · have := List.mem_singleton.1 z
      have := q.1
      omega
theorem cut_none (l : List Int) (t : List Nd) : cutL l 0 t = t := list_atN (cutL_len _ _ _) fun i hi => by
  rw [cutL_len] at hi
  rw [cutL_at hi, if_neg (by omega)]
theorem cut_snoc {l : List Int} {t : List Nd} {k : Nat} (h : k < t.length) : (cutL l k t).set k (cutN l (atN (cutL l k t) k)) = cutL l (k + 1) t := by
  refine list_atN (by rw [List.length_set, cutL_len, cutL_len]) fun j hj => ?_
  rw [List.length_set, cutL_len] at hj
  rw [atN_set (by rw [cutL_len]; exact h), cutL_at hj, cutL_at hj, cutL_at h, if_neg (Nat.lt_irrefl k)]
  by_cases e : j = k
  · subst e
    rw [if_pos rfl, if_pos (by omega)]
  · rw [if_neg e]
    by_cases q : j < k
    · rw [if_pos q, if_pos (by omega)]
    · rw [if_neg q, if_neg (by omega)]
theorem cut_zap (l : List Int) (t : List Nd) : cutL l t.length (zapL l t) = dropL l t := by
  refine list_atN (by rw [cutL_len, zapL_len, dropL_len]) fun j hj => ?_
  rw [cutL_len, zapL_len] at hj
  rw [cutL_at (by rw [zapL_len]; exact hj), if_pos hj, zap_at hj, drop_at hj]
/-- Those that a leaf may have, each once. -/
def numG (l : List Int) : List Int := l.foldl (fun o i => if 0 ≤ i ∧ i < 64 ∧ i ∉ o then o ++ [i] else o) []
theorem numG_snoc (l : List Int) (i : Int) : numG (l ++ [i]) = if 0 ≤ i ∧ i < 64 ∧ i ∉ numG l then numG l ++ [i] else numG l := by
  unfold numG
  rw [List.foldl_append]
  rfl
theorem numG_take {l : List Int} {k : Nat} (h : k < l.length) : numG (l.take (k + 1)) = if 0 ≤ l.getD k 0 ∧ l.getD k 0 < 64 ∧ l.getD k 0 ∉ numG (l.take k) then numG (l.take k) ++ [l.getD k 0] else numG (l.take k) := by
  have e : l.take (k + 1) = l.take k ++ [l.getD k 0] := by
    rw [List.take_succ_eq_append_getElem h, List.getD_eq_getElem?_getD, List.getElem?_eq_getElem h]
    rfl
  rw [e, numG_snoc]
theorem numG_aux {i : Int} : ∀ (l o : List Int), i ∈ l.foldl (fun o i => if 0 ≤ i ∧ i < 64 ∧ i ∉ o then o ++ [i] else o) o ↔ i ∈ o ∨ (i ∈ l ∧ 0 ≤ i ∧ i < 64)
  | [], o => by simp
  | x :: l, o => by
    rw [List.foldl_cons, numG_aux l]
    split
    · rename_i h
      rw [List.mem_append, List.mem_singleton, List.mem_cons]
      constructor
      · rintro ((q | rfl) | q)
        · exact .inl q
        · exact .inr ⟨.inl rfl, h.1, h.2.1⟩
        · exact .inr ⟨.inr q.1, q.2⟩
      · rintro (q | ⟨rfl | q, r⟩)
        · exact .inl (.inl q)
        · exact .inl (.inr rfl)
        · exact .inr ⟨q, r⟩
    · rename_i h
      simp only [List.mem_cons]
      constructor
      · rintro (q | q)
        · exact .inl q
        · exact .inr ⟨.inr q.1, q.2⟩
      · rintro (q | ⟨rfl | q, r⟩)
        · exact .inl q
        · by_cases z : i ∈ o
          · exact .inl z
          · exact absurd ⟨r.1, r.2, z⟩ h
        · exact .inr ⟨q, r⟩
theorem numG_mem {l : List Int} {i : Int} : i ∈ numG l ↔ i ∈ l ∧ 0 ≤ i ∧ i < 64 := by
  unfold numG
  rw [numG_aux]
  simp
theorem numG_len : ∀ (l o : List Int), (l.foldl (fun o i => if 0 ≤ i ∧ i < 64 ∧ i ∉ o then o ++ [i] else o) o).length ≤ l.length + o.length
  | [], o => by simp
  | x :: l, o => by
    rw [List.foldl_cons]
    refine Nat.le_trans (numG_len l _) ?_
    split
    · simp only [List.length_append, List.length_cons, List.length_nil]
      omega
    · simp only [List.length_cons]
      omega
theorem numG_le (l : List Int) : (numG l).length ≤ l.length := by
  have := numG_len l []
  simpa [numG] using this
theorem cutK_num {u l : List Int} (h : ∀ x ∈ u, 0 ≤ x ∧ x < 64) : cutK u (numG l) = cutK u l := by
  unfold cutK
  refine List.filter_congr fun x hx => ?_
  have := h x hx
  have : x ∈ numG l ↔ x ∈ l := by rw [numG_mem]; exact ⟨fun q => q.1, fun q => ⟨q, this⟩⟩
  simp [this]
theorem gone_num {t : List Nd} (ht : t.length ≤ 127) (l : List Int) {i : Nat} (hi : i < t.length) : goneAt (numG l) i ↔ goneAt l i := by
  unfold goneAt
  rw [numG_mem]
  exact ⟨fun q => ⟨q.1, q.2.1⟩, fun q => ⟨q.1, q.2, by omega, by omega⟩⟩
/-- Those alone that a leaf may have matter. -/
theorem drop_num {t : List Nd} (ht : trIs t) (l : List Int) : dropL (numG l) t = dropL l t := by
  refine list_atN (by rw [dropL_len, dropL_len]) fun i hi => ?_
  rw [dropL_len] at hi
  rw [drop_at hi, drop_at hi, zapN, zapN]
  have hg := gone_num (trIs_le ht) l hi
  by_cases g : goneAt l i
  · rw [if_pos g, if_pos (hg.2 g)]
    rfl
  · rw [if_neg g, if_neg (fun q => g (hg.1 q)), cutN, cutN, cutK_num (unm_small ht i).1]
theorem pn_eq {p q : Pn} (h : PnSame p q) : p = q := by
  obtain ⟨a, b, c⟩ := h
  obtain ⟨x, y, u⟩ := p
  obtain ⟨x', y', u'⟩ := q
  cases a
  cases b
  cases c
  rfl
theorem unm_kind {n : Nd} (h : ndCheck n = 0) (k : ¬ n.kind = 2) : n.inner = Pn.zero := by
  unfold ndCheck at h
  split at h
  · omega
  · split at h
    · omega
    · rename_i q
      have z : PnSame n.inner Pn.zero := Classical.byContradiction fun z => q (.inr ⟨k, z⟩)
      exact pn_eq z
theorem cutN_kind {l : List Int} {n : Nd} (h : ndCheck n = 0) (k : ¬ n.kind = 2) : cutN l n = n := by
  have e := unm_kind h k
  obtain ⟨x, y, u⟩ := n
  simp only at e
  subst e
  rfl
theorem pnCheck_mk {p : Pn} (h1 : 0 < p.enc.length) (h2 : p.enc.length ≤ 200) (h3 : p.hash.length ≤ 200) (h4 : p.unm.length ≤ 64) (h5 : ∀ x ∈ p.unm, 0 ≤ x ∧ x < 64) (h6 : Rising p.unm) : pnCheck p = 0 := by
  unfold pnCheck
  rw [if_neg (by omega), if_neg (by omega), if_neg (by rintro ⟨x, hx, q⟩; have := h5 x hx; omega), if_neg (fun q => q h6)]
theorem pn_cut {p : Pn} (h : pnCheck p = 0) (l : List Int) : pnCheck ⟨p.enc, p.hash, cutK p.unm l⟩ = 0 := by
  obtain ⟨a, b, c, d⟩ := pnCheck_ok h
  obtain ⟨e, f⟩ := pnCheck_nums h
  exact pnCheck_mk a b c (Nat.le_trans (cutK_length p.unm l) d) (fun x hx => e x (cutK_mem.1 hx).1) (cutK_rising (i := l) f)
theorem nd_cut {n : Nd} (h : ndCheck n = 0) (l : List Int) : ndCheck (cutN l n) = 0 := by
  by_cases k : n.kind = 2
  · have hp : pnCheck n.inner = 0 := by
      have h2 := h
      unfold ndCheck at h2
      repeat' split at h2
      all_goals first | exact h2 | omega
    have hq := pn_cut hp l
    obtain ⟨kd, lf, p⟩ := n
    simp only at k hp hq
    subst k
    show ndCheck ⟨2, lf, ⟨p.enc, p.hash, cutK p.unm l⟩⟩ = 0
    unfold ndCheck at h ⊢
    dsimp only at h ⊢
    have z : ¬ ((¬ (2 : Int) = 1 ∧ ¬ LfSame lf Lf.zero) ∨ (¬ (2 : Int) = 2 ∧ ¬ PnSame p Pn.zero)) := fun q => by
      rw [if_neg (by decide), if_pos q] at h
      exact absurd h (by decide)
    rw [if_neg (by decide), if_neg (fun q => z (q.imp id fun r => absurd rfl r.1)), if_neg (by decide), if_pos rfl]
    exact hq
  · rw [cutN_kind h k]
    exact h
theorem drop_ok {t : List Nd} (ht : trIs t) (l : List Int) (i : Nat) (hi : i < t.length) : okAt i (cutN l (zapN l i (atN t i))) := by
  have h := trIs_ok ht i
  unfold zapN
  split
  · exact ok_zero i
  · exact ⟨nd_cut h.1 l, h.2⟩
theorem drop_is {t : List Nd} (ht : trIs t) (l : List Int) : trIs (dropL l t) := by
  refine ⟨by rw [dropL_len]; exact ht.1, fun i hi => ?_⟩
  rw [dropL_len] at hi
  rw [drop_at hi]
  exact drop_ok ht l i hi
end Go.Proofs.YtkcpmpbjjnknhaaGreatDoor
