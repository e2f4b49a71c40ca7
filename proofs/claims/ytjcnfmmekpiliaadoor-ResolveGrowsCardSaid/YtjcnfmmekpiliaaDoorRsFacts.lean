/-
  What the statements of layer 11 ask of those that are told: pure.
-/
import Derived.Test.YtjcnfmmekpiliaaDoorRsMath
import Derived.Test.YtjcnfmmekpiliaaDoorKitI
namespace Go.Proofs.YtjcnfmmekpiliaaDoor
open Go.ChangeShapes Go.WideShapes Go.ChangeAt Go.RowKit
set_option linter.unusedVariables false

-- children, and below
def lftN (x : Nat) : Nat := x - p2 (lvlN x - 1)
def rgtN (x : Nat) : Nat := x + p2 (lvlN x - 1)
theorem pairs7 : all3N (fun x y w => bif Nat.beq (lvlN x) 0 then (undN y x == Nat.beq y x) else ((undN y x == (Nat.beq y x || undN y (lftN x) || undN y (rgtN x))) && !(undN y (lftN x) && undN y (rgtN x)) && (!undN y (rgtN x) || Nat.ble (x + 1) y))) = true := by kernel_rfl
theorem kids_nat {x w : Int} (h : isN x w) : lvl x = ((lvlN x.toNat : Nat) : Int) ∧ (lvl x ≠ 0 → leftI x w = ((lftN x.toNat : Nat) : Int) ∧ rightI x w = ((rgtN x.toNat : Nat) : Int)) :=
  fin2 (p := fun x w => lvl x = ((lvlN x.toNat : Nat) : Int) ∧ (lvl x ≠ 0 → leftI x w = ((lftN x.toNat : Nat) : Int) ∧ rightI x w = ((rgtN x.toNat : Nat) : Int))) (by kernel_rfl) h
theorem und_refl {x w : Int} (h : isN x w) : undI x x w := (und_dir h h).1 (.inl rfl)
theorem und_leaf {x y w : Int} (hx : isN x w) (hl : lvl x = 0) (u : undI y x w) : y = x := by
  have hk := kids_nat hx
  have hy := u.1
  obtain ⟨n, v, rfl, rfl, hv, hn⟩ := nat_of hx
  obtain ⟨m, v2, rfl, e, _, hm⟩ := nat_of hy
  obtain rfl : v = v2 := by omega
  have h := fin3N pairs7 hv hn hm
  simp only [Int.toNat_natCast] at hk
  have h0 : lvlN n = 0 := by omega
  have u2 : undN m n = true := by simpa using u.2.2
  rw [h0] at h
  have h2 : undN m n = Nat.beq m n := by simpa using h
  rw [u2] at h2
  have := Nat.eq_of_beq_eq_true h2.symm
  omega
theorem und_all {x y w : Int} (hx : isN x w) (hl : lvl x ≠ 0) (hy : isN y w) : (undI y x w ↔ y = x ∨ undI y (leftI x w) w ∨ undI y (rightI x w) w) ∧ ¬ (undI y (leftI x w) w ∧ undI y (rightI x w) w) ∧ (undI y (rightI x w) w → x < y) := by
  have hk := kids_nat hx
  obtain ⟨_, _, _, kk⟩ := kids hx
  obtain ⟨ka, kb, _, _⟩ := kk hl
  obtain ⟨el, er⟩ := hk.2 hl
  rw [el] at ka
  rw [er] at kb
  rw [el, er]
  obtain ⟨n, v, rfl, rfl, hv, hn⟩ := nat_of hx
  obtain ⟨m, v2, rfl, e, _, hm⟩ := nat_of hy
  obtain rfl : v = v2 := by omega
  have h := fin3N pairs7 hv hn hm
  simp only [Int.toNat_natCast] at hk ka kb ⊢
  have h0 : Nat.beq (lvlN n) 0 = false := by
    rw [Bool.eq_false_iff]
    intro t
    have := Nat.eq_of_beq_eq_true t
    omega
  rw [h0] at h
  simp only [cond_false, Bool.and_eq_true, beq_iff_eq] at h
  obtain ⟨⟨h1, h2⟩, h3⟩ := h
  have eu : ∀ z : Nat, isN (z : Int) v → (undI (m : Int) (z : Int) v ↔ undN m z = true) := fun z hz => by unfold undI; simp [hy, hz]
  rw [eu _ hx, eu _ ka, eu _ kb, h1]
  refine ⟨?_, ?_, ?_⟩
  · rw [Bool.or_eq_true, Bool.or_eq_true, Nat.beq_eq, or_assoc]
    constructor
    · exact fun q => q.imp (fun e => by omega) id
    · exact fun q => q.imp (fun e => by omega) id
  · rintro ⟨a, b⟩
    rw [a, b] at h2
    cases h2
  · intro a
    rw [a] at h3
    have : Nat.ble (n + 1) m = true := by simpa using h3
    have := Nat.le_of_ble_eq_true this
    omega
theorem und_kids {x y w : Int} (hx : isN x w) (hl : lvl x ≠ 0) : undI y x w ↔ y = x ∨ undI y (leftI x w) w ∨ undI y (rightI x w) w := by
  by_cases hy : isN y w
  · exact (und_all hx hl hy).1
  · exact ⟨fun u => absurd u.1 hy, fun u => by
      rcases u with e | u | u
      · exact absurd (e ▸ hx) hy
      · exact absurd u.1 hy
      · exact absurd u.1 hy⟩
theorem und_trans {y z w : Int} (hz : undI z y w) : ∀ (n : Nat) (x : Int), lvl x < n → undI y x w → undI z x w
  | 0, x, h, u => by
    have := (kids u.2.1).1
    omega
  | n + 1, x, h, u => by
    by_cases q : lvl x = 0
    · rw [← und_leaf u.2.1 q u]
      exact hz
    · obtain ⟨_, _, _, k⟩ := kids u.2.1
      obtain ⟨a, b, c, d⟩ := k q
      rcases (und_kids u.2.1 q).1 u with e | e | e
      · rw [← e]
        exact hz
      · exact (und_kids u.2.1 q).2 (.inr (.inl (und_trans hz n _ (by omega) e)))
      · exact (und_kids u.2.1 q).2 (.inr (.inr (und_trans hz n _ (by omega) e)))
theorem und_up {x y z w : Int} (hz : undI z y w) (hy : undI y x w) : undI z x w := und_trans hz 7 x (by have := (kids hy.2.1).2.1; omega) hy
-- those that are told of a node
theorem hi_ind {t : List Nd} {P : Int → Prop} (step : ∀ x, isN x (t.length : Int) → ((atN t x.toNat).kind = 0 → ¬ x % 2 = 0 → P (leftI x t.length) ∧ P (rightI x t.length)) → P x) : ∀ (n : Nat) (x : Int), isN x (t.length : Int) → lvl x < n → P x
  | 0, x, h, hl => by
    have := (kids h).1
    omega
  | n + 1, x, h, hl => step x h fun hk ho => by
    obtain ⟨⟨a, b⟩, c, d⟩ := odd_kids h ho
    exact ⟨hi_ind step n _ a (by omega), hi_ind step n _ c (by omega)⟩
theorem hi_all {t : List Nd} {P : Int → Prop} (one : ∀ x, isN x (t.length : Int) → ¬ (atN t x.toNat).kind = 0 → hiL t x = [x] → P x) (leaf : ∀ x, isN x (t.length : Int) → (atN t x.toNat).kind = 0 → lvl x = 0 → hiL t x = [] → P x)
    (both : ∀ x, isN x (t.length : Int) → (atN t x.toNat).kind = 0 → lvl x ≠ 0 → hiL t x = hiL t (leftI x t.length) ++ hiL t (rightI x t.length) → isN (leftI x t.length) t.length → isN (rightI x t.length) t.length → P (leftI x t.length) → P (rightI x t.length) → P x) {x : Int} (h : isN x (t.length : Int)) : P x := by
  refine hi_ind (fun x h ih => ?_) 7 x h (by have := (kids h).2.1; omega)
  by_cases q : (atN t x.toNat).kind = 0
  · by_cases e : x % 2 = 0
    · exact leaf x h q ((even_lvl h).1 e) (hi_leaf h q e)
    · obtain ⟨⟨a, _⟩, b, _⟩ := odd_kids h e
      obtain ⟨pa, pb⟩ := ih q e
      exact both x h q (fun z => e ((even_lvl h).2 z)) (hi_both h q) a b pa pb
  · exact one x h q (by rw [hi_eq, hi_one h q])
theorem hi_und {t : List Nd} {x : Int} (h : isN x (t.length : Int)) : ∀ k ∈ hiL t x, undI k x t.length :=
  hi_all (P := fun x => ∀ k ∈ hiL t x, undI k x t.length)
    (fun x h _ e k hk => by
      rw [e, List.mem_singleton] at hk
      rw [hk]
      exact und_refl h)
    (fun x h _ _ e k hk => by
      rw [e] at hk
      cases hk)
    (fun x h _ hl e _ _ a b k hk => by
      rw [e] at hk
      rcases List.mem_append.1 hk with hk | hk
      · exact (und_kids h hl).2 (.inr (.inl (a k hk)))
      · exact (und_kids h hl).2 (.inr (.inr (b k hk)))) h
/-- Below how many a node is. -/
def cntU (y w : Int) (l : List Int) : Nat := (l.filter fun k => decide (undI y k w)).length
theorem cntU_snoc (y w : Int) (l : List Int) (c : Int) : cntU y w (l ++ [c]) = cntU y w l + (if undI y c w then 1 else 0) := by
  unfold cntU
  rw [List.filter_append, List.length_append]
  by_cases q : undI y c w <;> simp [q]
theorem cntU_app (y w : Int) (l m : List Int) : cntU y w (l ++ m) = cntU y w l + cntU y w m := by
  unfold cntU
  rw [List.filter_append, List.length_append]
theorem cntU_none {y w : Int} {l : List Int} (h : ∀ k ∈ l, ¬ undI y k w) : cntU y w l = 0 := by
  unfold cntU
  rw [List.length_eq_zero_iff, List.filter_eq_nil_iff]
  exact fun k hk => by simpa using h k hk
theorem cntU_le (y w : Int) (l : List Int) : cntU y w l ≤ l.length := List.length_filter_le _ _
theorem hi_cnt {t : List Nd} {x y : Int} (h : isN x (t.length : Int)) (hk : (atN t y.toNat).kind ≠ 0) : undI y x t.length → cntU y t.length (hiL t x) = 1 :=
  hi_all (P := fun x => undI y x t.length → cntU y t.length (hiL t x) = 1)
    (fun x h _ e u => by
      rw [e]
      simp [cntU, u])
    (fun x h k hl e u => absurd (und_leaf h hl u ▸ k) hk)
    (fun x h k hl e ha hb a b u => by
      have hap := (und_all h hl u.1).2.1
      rw [e, cntU_app]
      rcases (und_kids h hl).1 u with q | q | q
      · exact absurd (q ▸ k) hk
      · rw [a q, cntU_none fun j hj z => hap ⟨q, und_up z (hi_und hb j hj)⟩]
      · rw [b q, cntU_none fun j hj z => hap ⟨und_up z (hi_und ha j hj), q⟩]) h
theorem hi_apart {t : List Nd} {x : Int} (h : isN x (t.length : Int)) : (hiL t x).Pairwise fun a b => ¬ undI a b t.length ∧ ¬ undI b a t.length :=
  hi_all (P := fun x => (hiL t x).Pairwise fun a b => ¬ undI a b t.length ∧ ¬ undI b a t.length)
    (fun x h _ e => by
      rw [e]
      exact List.pairwise_singleton _ _)
    (fun x h _ _ e => by
      rw [e]
      exact List.Pairwise.nil)
    (fun x h _ hl e ha hb a b => by
      rw [e, List.pairwise_append]
      refine ⟨a, b, fun p hp q hq => ?_⟩
      have up := hi_und ha p hp
      have uq := hi_und hb q hq
      exact ⟨fun z => (und_all h hl up.1).2.1 ⟨up, und_up z uq⟩, fun z => (und_all h hl uq.1).2.1 ⟨und_up z up, uq⟩⟩) h
theorem hi_once {t : List Nd} {x : Int} {i k : Nat} (h : isN x (t.length : Int)) (hi : i < (hiL t x).length) (hk : k < (hiL t x).length) (ne : i ≠ k) : ¬ undI ((hiL t x).getD i 0) ((hiL t x).getD k 0) t.length := by
  have hp := List.pairwise_iff_getElem.1 (hi_apart h)
  rw [List.getD_eq_getElem?_getD, List.getElem?_eq_getElem hi, List.getD_eq_getElem?_getD, List.getElem?_eq_getElem hk]
  rcases (by omega : i < k ∨ k < i) with q | q
  · exact (hp i k hi hk q).1
  · exact (hp k i hk hi q).2
theorem hi_in {t : List Nd} {x k : Int} (hk : k ∈ hiL t x) : isN x (t.length : Int) ∧ isN k (t.length : Int) ∧ (atN t k.toNat).kind ≠ 0 ∧ undI k x t.length := by
  have hx : isN x (t.length : Int) := Classical.byContradiction fun q => by
    rw [hi_none q] at hk
    cases hk
  have h1 := hiN_isN 7 t x k hk
  exact ⟨hx, h1.1, h1.2, hi_und hx k hk⟩
-- those that have a key
theorem mem_res {t : List Nd} {x k : Int} : k ∈ resL t x ↔ ∃ j ∈ hiL t x, k = j ∨ ∃ u ∈ (atN t j.toNat).inner.unm, k = 2 * u := by
  unfold resL resOf
  rw [List.mem_flatMap]
  constructor
  · rintro ⟨j, hj, hk⟩
    refine ⟨j, hj, ?_⟩
    rcases List.mem_cons.1 hk with e | e
    · exact .inl e
    · obtain ⟨u, hu, e⟩ := List.mem_map.1 e
      exact .inr ⟨u, hu, e.symm⟩
  · rintro ⟨j, hj, e | ⟨u, hu, e⟩⟩
    · exact ⟨j, hj, List.mem_cons.2 (.inl e)⟩
    · exact ⟨j, hj, List.mem_cons.2 (.inr (List.mem_map.2 ⟨u, hu, e.symm⟩))⟩
theorem res_odd {t : List Nd} {x k : Int} (h : k ∈ resL t x) (ho : k % 2 = 1) : k ∈ hiL t x := by
  obtain ⟨j, hj, e | ⟨u, _, e⟩⟩ := mem_res.1 h
  · exact e ▸ hj
  · omega
theorem res_range {t : List Nd} {x k : Int} (ht : trIs t) (h : k ∈ resL t x) : 0 ≤ k ∧ k < 128 := by
  have hl := trIs_le ht
  obtain ⟨j, hj, e | ⟨u, hu, e⟩⟩ := mem_res.1 h
  · have := (hi_in hj).2.1.le
    omega
  · have := (unm_small ht j.toNat).1 u hu
    omega
theorem res_len {t : List Nd} (h : trIs t) (x : Int) : (resL t x).length ≤ 8320 := by
  have h1 := resOf_len h (hiL t x)
  have h2 := hiL_len t x
  unfold resL
  omega
theorem cntU_res (y w : Int) (t : List Nd) : ∀ l : List Int, cntU y w l ≤ cntU y w (resOf t l)
  | [] => Nat.le_refl _
  | k :: l => by
    have ih := cntU_res y w t l
    have e : resOf t (k :: l) = [k] ++ ((atN t k.toNat).inner.unm.map (2 * ·) ++ resOf t l) := by simp [resOf, nodeR]
    rw [e, cntU_app, cntU_app, show k :: l = [k] ++ l from rfl, cntU_app]
    omega
theorem res_cover {t : List Nd} {x y : Int} (h : isN x (t.length : Int)) (hk : (atN t y.toNat).kind ≠ 0) (u : undI y x t.length) : 0 < cntU y t.length (resL t x) := by
  have h1 := hi_cnt h hk u
  have h2 := cntU_res y t.length t (hiL t x)
  unfold resL
  omega
theorem getD_in {l : List Int} {k : Nat} (h : k < l.length) : l.getD k 0 ∈ l := by
  rw [List.getD_eq_getElem?_getD, List.getElem?_eq_getElem h]
  exact List.getElem_mem h
theorem hi_blank {t : List Nd} (h : ∀ i, (atN t i).kind = 0) (x : Int) : hiL t x = [] :=
  List.eq_nil_iff_forall_not_mem.2 fun k hk => (hi_in hk).2.2.1 (h _)
theorem res_blank (n : Nat) (x : Int) : resL (List.replicate n Nd.zero) x = [] := by
  unfold resL
  rw [hi_blank fun i => ?_]
  · rfl
  · have := atN_app_z (a := []) (i := i) (n := n)
    rw [List.nil_append] at this
    rw [this]
    rfl
theorem res_plain {t : List Nd} (h : ∀ i, i < t.length → (atN t i).inner.unm = []) (x : Int) : resL t x = hiL t x := by
  have hz : ∀ i, (atN t i).inner.unm = [] := fun i => by
    by_cases q : i < t.length
    · exact h i q
    · rw [atN_none (by omega)]
  have : ∀ l : List Int, resOf t l = l := fun l => by
    induction l with
    | nil => rfl
    | cons k l ih =>
      have e : resOf t (k :: l) = nodeR t k ++ resOf t l := by simp [resOf]
      rw [e, ih, nodeR, hz]
      rfl
  exact this _
-- a way up, filtered
theorem way_apart {x w : Int} (h : isN x w) : (dirI x w).Nodup := fin2 (p := fun x w => (dirI x w).Nodup) (by kernel_rfl) h
theorem fork_out {a : List Nd} {i : Int} (h : isN (2 * i) (a.length : Int)) {j : Nat} (hj : j < (dirI (2 * i) a.length).length) (hh : hiL a ((copI (2 * i) a.length).getD j 0) = []) : (dirI (2 * i) a.length).getD j 0 ∉ (forkF a (wayP a i)).map Prod.fst := by
  intro hm
  obtain ⟨hw, hc⟩ := wayP_len h
  obtain ⟨p, hp, e⟩ := List.mem_map.1 hm
  obtain ⟨hp1, hp2⟩ := List.mem_filter.1 hp
  obtain ⟨k, hk, ek⟩ := List.mem_iff_getElem.1 hp1
  have h1 : (wayP a i)[k]? = some p := by rw [List.getElem?_eq_getElem hk, ek]
  rw [wayP, List.getElem?_zip_eq_some] at h1
  obtain ⟨d1, c1⟩ := h1
  have hkd : k < (dirI (2 * i) a.length).length := by omega
  rw [List.getD_eq_getElem?_getD, List.getElem?_eq_getElem hj] at e
  rw [List.getElem?_eq_getElem hkd] at d1
  have ekj : k = j := (List.getElem_inj (way_apart h)).1 (show (dirI (2 * i) a.length)[k] = (dirI (2 * i) a.length)[j] from (Option.some.inj d1).trans e)
  subst ekj
  rw [List.getD_eq_getElem?_getD, c1] at hh
  exact (of_decide_eq_true hp2) hh
theorem fork_in {a : List Nd} {i : Int} (h : isN (2 * i) (a.length : Int)) {j : Nat} (hj : j < (dirI (2 * i) a.length).length) (hh : ¬ hiL a ((copI (2 * i) a.length).getD j 0) = []) : (forkF a (wayP a i))[(forkF a ((wayP a i).take j)).length]? = some ((dirI (2 * i) a.length).getD j 0, (copI (2 * i) a.length).getD j 0) := by
  have hp := forkF_pre a (wayP a i) (j + 1)
  rw [wayP_at h hj, forkF_yes hh] at hp
  obtain ⟨r, hr⟩ := hp
  rw [← hr, List.append_assoc, List.getElem?_append_right (Nat.le_refl _), Nat.sub_self]
  rfl
theorem fork_in_fst {a : List Nd} {i : Int} (h : isN (2 * i) (a.length : Int)) {j : Nat} (hj : j < (dirI (2 * i) a.length).length) (hh : ¬ hiL a ((copI (2 * i) a.length).getD j 0) = []) : (forkF a ((wayP a i).take j)).length < (forkF a (wayP a i)).length ∧ ((forkF a (wayP a i)).map Prod.fst).getD (forkF a ((wayP a i).take j)).length 0 = (dirI (2 * i) a.length).getD j 0 ∧ ((forkF a (wayP a i)).map Prod.snd).getD (forkF a ((wayP a i).take j)).length 0 = (copI (2 * i) a.length).getD j 0 := by
  have e := fork_in h hj hh
  refine ⟨(List.getElem?_eq_some_iff.1 e).1, ?_, ?_⟩
  · rw [List.getD_eq_getElem?_getD, List.getElem?_map, e]
    rfl
  · rw [List.getD_eq_getElem?_getD, List.getElem?_map, e]
    rfl
theorem cop_node {x w : Int} (h : isN x w) {j : Nat} (hj : j < (copI x w).length) : isN ((copI x w).getD j 0) w ∧ 0 ≤ sibI ((copI x w).getD j 0) w := cop_nodes h _ (getD_in hj)
-- a tree that has grown
theorem grow_node {x w : Int} (h : isN x w) (hw : w ≤ 63) : isN x (2 * w + 1) ∧ leftI x (2 * w + 1) = leftI x w ∧ rightI x (2 * w + 1) = rightI x w ∧ dirI x (2 * w + 1) = dirI x w ++ [w] ∧ copI x (2 * w + 1) = copI x w ++ [rightI w (2 * w + 1)] :=
  fin2 (p := fun x w => w ≤ 63 → isN x (2 * w + 1) ∧ leftI x (2 * w + 1) = leftI x w ∧ rightI x (2 * w + 1) = rightI x w ∧ dirI x (2 * w + 1) = dirI x w ++ [w] ∧ copI x (2 * w + 1) = copI x w ++ [rightI w (2 * w + 1)]) (by kernel_rfl) h hw
theorem grow_top {w : Int} (h : isN 0 w) (hw : w ≤ 63) : isN w (2 * w + 1) ∧ lvl w ≠ 0 ∧ leftI w (2 * w + 1) = w / 2 ∧ isN (rightI w (2 * w + 1)) (2 * w + 1) :=
  fin2 (p := fun x w => w ≤ 63 → isN w (2 * w + 1) ∧ lvl w ≠ 0 ∧ leftI w (2 * w + 1) = w / 2 ∧ isN (rightI w (2 * w + 1)) (2 * w + 1)) (by kernel_rfl) h hw
section
variable {t g : List Nd} (hl : (g.length : Int) = 2 * t.length + 1) (hw : (t.length : Int) ≤ 63) (ha : ∀ i, atN g i = atN t i)
include hl hw ha
theorem hi_grown {x : Int} (h : isN x (t.length : Int)) : hiL g x = hiL t x :=
  hi_all (P := fun x => hiL g x = hiL t x)
    (fun x h k e => by
      rw [e, hi_eq, hi_one (by rw [hl]; exact (grow_node h hw).1) (by rw [ha]; exact k)])
    (fun x h k lv e => by
      rw [e, hi_leaf (by rw [hl]; exact (grow_node h hw).1) (by rw [ha]; exact k) ((even_lvl h).2 lv)])
    (fun x h k lv e _ _ a b => by
      obtain ⟨g1, g2, g3, _⟩ := grow_node h hw
      rw [e, hi_both (by rw [hl]; exact g1) (by rw [ha]; exact k), hl, g2, g3, a, b]) h
theorem res_grown {x : Int} (h : isN x (t.length : Int)) : resL g x = resL t x := by
  unfold resL
  rw [hi_grown hl hw ha h]
  unfold resOf nodeR
  simp only [ha]
theorem hi_behind (h : isN 0 (t.length : Int)) : hiL g (rightI t.length g.length) = [] := by
  obtain ⟨h1, h2, h3, h4⟩ := grow_top h hw
  rw [← hl] at h1 h3 h4
  refine List.eq_nil_iff_forall_not_mem.2 fun k hk => ?_
  obtain ⟨_, k1, k2, k3⟩ := hi_in hk
  have := (und_all h1 h2 k1).2.2 k3
  rw [ha, atN_none (by omega)] at k2
  exact k2 rfl
theorem res_top (h : isN 0 (t.length : Int)) : resL g t.length = resL t ((t.length : Int) / 2) := by
  obtain ⟨h1, h2, h3, h4⟩ := grow_top h hw
  have hb := hi_behind hl hw ha h
  rw [← hl] at h1 h3 h4
  have hz : (atN g (t.length : Int).toNat).kind = 0 := by
    rw [ha, atN_none (by omega)]
  rw [res_both h1 hz, h3, show resL g (rightI t.length g.length) = [] by unfold resL; rw [hb]; rfl, List.append_nil]
  exact res_grown hl hw ha ⟨h.1, by omega, by have := h.2.2; omega⟩
theorem fork_grown (ht : trIs t) (hg : trIs g) {i : Int} (h : isN (2 * i) (t.length : Int)) : forkL g i = forkL t i := by
  have hb := h.le
  have h0 : isN 0 (t.length : Int) := ⟨h.1, by omega, by omega⟩
  have e1 : leavesA t = (t.length + 1) / 2 := rfl
  have e2 : leavesA g = (g.length + 1) / 2 := rfl
  obtain ⟨g1, _, _, g4, g5⟩ := grow_node h hw
  obtain ⟨wl, cl⟩ := wayP_len h
  rw [fork_yes ⟨by omega, by omega⟩, fork_yes ⟨by omega, by omega⟩]
  have hz : wayP g i = wayP t i ++ [((t.length : Int), rightI t.length g.length)] := by
    unfold wayP
    rw [hl, g4, g5, List.zip_append cl.symm]
    rfl
  rw [hz, forkF_no (p := ((t.length : Int), rightI t.length g.length)) (fun q => q (hi_behind hl hw ha h0))]
  refine List.filter_congr fun p hp => ?_
  have hp2 : isN p.2 (t.length : Int) := (cop_nodes h p.2 (List.of_mem_zip hp).2).1
  rw [hi_grown hl hw ha hp2]
end
theorem grown {t : List Nd} (ht : trIs t) (h : growE t = 0) : ((growL t).length : Int) = 2 * t.length + 1 ∧ (t.length : Int) ≤ 63 ∧ ∀ i, atN (growL t) i = atN t i := by
  have h1 := growL_len h
  have h2 := grow_small h
  have h3 := growL_ok h
  rw [trAs_ok ht] at h1 h2 h3
  exact ⟨by omega, by omega, fun i => by rw [h3, atN_app_z]⟩
end Go.Proofs.YtjcnfmmekpiliaaDoor
