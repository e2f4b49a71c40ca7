/-
  Rules for slices of octets, copies, appends, strings.
-/
import Derived.Test.YtakbbenegojcdaaWkI
import Derived.Test.YtakbbenegojcdaaStr
import Derived.Laws.CopyRow
import Derived.Laws.IdiomCopy
namespace Go.Proofs.Ytakbbenegojcdaa
open Go.ChangeShapes Go.WideShapes Go.ChangeAt Go.RowKit
set_option linter.unusedVariables false


-- octets
theorem huo24 : Try.prog.underlying 22 = some (.slice 5) := by kernel_rfl
theorem hustr : Try.prog.underlying 9 = some .string := by kernel_rfl
section
variable {ops : Array Oper} {Q : Exit → Act → World → Prop} {n d : Nat} {E : Env} {o : Oper} {rest : List Oper} {w w0 : World} {v : Value} {x y : Operand} {t t' : TypeId}
theorem y_str {B : Nat} {A : Option Addr} {m c : Nat} {xs : List Int} (h : Oct w B A m xs) (ho : o.op = .convert 22 9 x) (hx : val E x = some (.slice A m c)) : Yields Try.prog E o w (.string (strOfNums xs)) := fun n a ha => .inl (by
  unfold execOp
  rw [ho]
  simp only [ha.eval hx]
  rw [Sem.run_bind, h.str c]
  rfl)
theorem y_cut_l {A : Option Addr} {m c : Nat} (l : Nat) {lo : Int} (e : lo = l) (h : l ≤ m) (ho : o.op = .slice 22 x (some y) none none) (hx : val E x = some (.slice A m c)) (hy : val E y = some (nv lo)) : Yields Try.prog E o w (.slice (cutA A l c) (m - l) (c - l)) := fun n a ha => .inl (by
  unfold execOp
  rw [ho]
  simp only [ha.eval hx, Option.map_some, Option.map_none, ha.eval hy]
  rw [Sem.run_bind, run_cut_l A m c l lo e h]
  rfl)
theorem y_cut_h {A : Option Addr} {m c : Nat} (l : Nat) {hi : Int} (e : hi = l) (h : l ≤ c) (ho : o.op = .slice 22 x none (some y) none) (hx : val E x = some (.slice A m c)) (hy : val E y = some (nv hi)) : Yields Try.prog E o w (.slice A l c) := fun n a ha => .inl (by
  unfold execOp
  rw [ho]
  simp only [ha.eval hx, Option.map_some, Option.map_none, ha.eval hy]
  rw [Sem.run_bind, run_cut_h A m c l hi e h]
  rfl)
theorem y_cut_lh {A : Option Addr} {m c : Nat} {z : Operand} (l k : Nat) {lo hi : Int} (e : lo = l) (e' : hi = k) (h : l ≤ k) (h' : k ≤ c) (ho : o.op = .slice 22 x (some y) (some z) none) (hx : val E x = some (.slice A m c)) (hy : val E y = some (nv lo)) (hz : val E z = some (nv hi)) : Yields Try.prog E o w (.slice (cutA A l c) (k - l) (c - l)) := fun n a ha => .inl (by
  unfold execOp
  rw [ho]
  simp only [ha.eval hx, Option.map_some, Option.map_none, ha.eval hy, ha.eval hz]
  rw [Sem.run_bind, run_cut_lh A m c l k lo hi e e' h h']
  rfl)
/-- The octets of a row's own, as a slice reads them. -/
def rd (F : Nat → BitVec 8) (k : Nat) : List Int := (List.range k).map fun i => vb (F i)
theorem rd_len (F : Nat → BitVec 8) (k : Nat) : (rd F k).length = k := by simp [rd]
theorem oct_row {b N k : Nat} {tr : TypeId} {F : Nat → BitVec 8} (h : RowAt w b tr (cB N F)) (hk : k ≤ N) : Oct w (b + 1) (some ⟨b, 0, none⟩) k (rd F k) := by
  refine ⟨rd_len F k, fun z hz => ?_, fun _ => ⟨b, 0, rfl, by omega, fun i z hi => ?_⟩⟩
  · obtain ⟨i, _, rfl⟩ := List.mem_map.1 hz
    exact vb_range _
  · rw [Nat.zero_add, cell_of_row w b i _ tr _ h]
    have hlt : i < k := by
      have := (List.getElem?_eq_some_iff.1 hi).1
      simpa [rd] using this
    rw [cB_get (by omega)]
    simp [rd, hlt] at hi
    rw [← hi]
def toB (z : Int) : BitVec 8 := BitVec.ofInt 8 z
theorem vb_toB {z : Int} (h : 0 ≤ z ∧ z ≤ 255) : vb (toB z) = z := by
  unfold vb toB
  rw [BitVec.toNat_ofInt]
  omega
/-- The octets ys laid from place j on. -/
def putF (F : Nat → BitVec 8) (j : Nat) (ys : List Int) : Nat → BitVec 8 := fun i => if j ≤ i ∧ i < j + ys.length then toB (ys.getD (i - j) 0) else F i
theorem cB_putF {N j : Nat} {F : Nat → BitVec 8} {ys : List Int} (hy : ∀ z ∈ ys, 0 ≤ z ∧ z ≤ 255) (h : j + ys.length ≤ N) :
    ((cB N F).toList.take j ++ ys.map (Value.int .u8) ++ (cB N F).toList.drop (j + ys.length)).toArray = cB N (putF F j ys) := by
  have hl : (cB N F).toList.length = N := by simp [cB]
  have key : ∀ i : Nat, (((cB N F).toList.take j ++ ys.map (Value.int .u8) ++ (cB N F).toList.drop (j + ys.length) : List Value))[i]? = (cB N (putF F j ys)).toList[i]? := by
    intro i
    have e0 : ∀ (G : Nat → BitVec 8) (k : Nat), (cB N G).toList[k]? = if k < N then some (ov (G k)) else none := by
      intro G k
      by_cases hk : k < N
      · simp [cB, hk]
      · simp [cB, hk]
    have ht : ((cB N F).toList.take j).length = j := by rw [List.length_take, hl]; omega
    rw [List.append_assoc]
    by_cases h1 : i < j
    · rw [List.getElem?_append_left (by omega), List.getElem?_take, if_pos h1, e0, e0]
      simp [putF, show ¬ (j ≤ i ∧ i < j + ys.length) by omega]
    · rw [List.getElem?_append_right (by omega), ht]
      by_cases h2 : i < j + ys.length
      · rw [List.getElem?_append_left (by simp; omega), List.getElem?_map, e0, if_pos (by omega)]
        have hlt : i - j < ys.length := by omega
        rw [List.getElem?_eq_getElem hlt]
        simp only [putF, if_pos (show j ≤ i ∧ i < j + ys.length by omega), List.getD, List.getElem?_eq_getElem hlt, Option.map_some, Option.getD_some]
        rw [show (ov (toB ys[i - j]) : Value) = .int .u8 ys[i - j] by rw [ov, vb_toB (hy _ (List.getElem_mem hlt))]]
      · rw [List.getElem?_append_right (by simp; omega), List.length_map, List.getElem?_drop, e0, e0]
        rw [show j + ys.length + (i - j - ys.length) = i by omega]
        simp [putF, show ¬ (j ≤ i ∧ i < j + ys.length) by omega]
  refine Array.toList_inj.1 ?_
  rw [List.toList_toArray]
  exact List.ext_getElem? key
/-- A copy into an array of octets of one's own. -/
theorem lg_copy {b j N m c m2 c2 B : Nat} {tr : TypeId} {F : Nat → BitVec 8} {A : Option Addr} {xs : List Int} (hr : RowAt w b tr (cB N F)) (hO : Oct w B A m2 xs) (hj : j + m ≤ N) (hw : Want ops E o true)
    (ho : o.op = .call { callee := .builtin .copy, args := #[x, y], argTypes := #[22, 22] }) (hx : val E x = some (.slice (some ⟨b, j, none⟩) m c)) (hy : val E y = some (.slice A m2 c2)) (hd : o.dst = some d) (hn : d < n)
    (h : ∀ w', Set1 w w' b tr (cB N (putF F j (xs.take m))) → LG Try.prog ops Q n ((d, iv (min m2 m)) :: E) rest w') : LG Try.prog ops Q n E (o :: rest) w := by
  have hsz : (Try.prog.info? 5).map (·.size) = some 1 := by kernel_rfl
  have hl := hO.1
  have hrun : (Builtin.copy_ #[22, 22] o.type #[.slice (some ⟨b, j, none⟩) m c, .slice A m2 c2]).run Try.prog w = .ok (iv (min m2 m)) (w.setRow b (cB N (putF F j (xs.take m)))) := by
    have ez : putF F j [] = F := by
      funext i
      simp only [putF, List.length_nil, Nat.add_zero]
      rw [if_neg (by omega)]
    by_cases h0 : A = none
    · subst h0
      have h2 : m2 = 0 := by
        rcases Nat.eq_zero_or_pos m2 with e | e
        · exact e
        · obtain ⟨_, _, e2, _⟩ := hO.2.2 e
          cases e2
      subst h2
      have hx0 : xs = [] := List.eq_nil_of_length_eq_zero hl
      subst hx0
      rw [run_copy_none (P := Try.prog) w 22 22 o.type 5 (some ⟨b, j, none⟩) none m c 0 c2 huo24 hsz (by simp)]
      simp only [List.take_nil, Nat.zero_min]
      rw [ez, setRow_self w b _ tr (0, 0) hr]
      rfl
    · obtain ⟨ad, rfl⟩ := Option.ne_none_iff_exists'.1 h0
      have hsrc : ∀ k u, ((xs.take m).map (Value.int .u8))[k]? = some u → w.cell? (ad.add k) = some u := by
        intro k u hu
        rw [List.getElem?_map, Option.map_eq_some_iff] at hu
        obtain ⟨z, hz, rfl⟩ := hu
        rw [List.getElem?_take] at hz
        split at hz
        · obtain ⟨b1, o1, e1, _, hc⟩ := hO.2.2 (by have := (List.getElem?_eq_some_iff.1 hz).1; omega)
          injection e1 with e1
          subst e1
          rw [Addr.add_lit]
          exact hc k z hz
        · cases hz
      have hlen : ((xs.take m).map (Value.int .u8)).length = Nat.min m2 m := by
        rw [List.length_map, List.length_take, hl]
        exact Nat.min_comm m m2
      have hlt : (xs.take m).length ≤ m := by rw [List.length_take]; omega
      have hr2 := run_copy_row (P := Try.prog) w 22 22 o.type 5 b j m c ad m2 c2 (cB N F) tr ((xs.take m).map (Value.int .u8)) huo24 hsz hr hlen hsrc (by rw [List.length_map, cB_size]; omega) (ints_oneCell _ _)
      have e3 : ((xs.take m).map (Value.int .u8)).length = (xs.take m).length := List.length_map _
      have e4 : goInt (((xs.take m).map (Value.int .u8)).length) = iv (min m2 m) := by rw [hlen]; rfl
      rw [hr2, e4, e3, cB_putF (fun z hz => hO.2.1 z (List.mem_of_mem_take hz)) (by omega)]
  intro a ha
  unfold wpList
  rw [hw n a ha, if_pos rfl]
  refine .inl ?_
  unfold Oper.wp
  have he : (execOp a.eval o).run Try.prog w = .ok (.value (iv (min m2 m))) (w.setRow b (cB N (putF F j (xs.take m)))) := by
    unfold execOp
    rw [ho]
    simp only [resolve, invoke, builtin, List.map_toArray, List.map_cons, List.map_nil, ha.eval hx, ha.eval hy, Sem.run_bind, Sem.run_pure, Result.andThen_ok, hrun]
  rw [he]
  show wpList Try.prog ops Q rest (a.put o.dst _) _
  rw [hd]
  exact h _ (Set1.of_setRow hr) _ (ha.put hn)
/-- An append of octets to a row of one's own. -/
theorem lg_append {base : Nat} {u : Value} {xs ys : List Int} {A : Option Addr} {m c B : Nat} (hown : w.ownsRow base 5 1 u xs.length (xs.map (Value.int .u8))) (hO : Oct w B A m ys) (hb : xs.length + m ≤ 70368744177664) (hbase : base ≤ w.heap.size) (hw : Want ops E o true)
    (ho : o.op = .call { callee := .builtin .append, args := #[x, y], argTypes := #[22, 22] }) (hty : o.type = 22) (hx : val E x = some u) (hy : val E y = some (.slice A m c)) (hd : o.dst = some d) (hn : d < n)
    (h : ∀ v' w', w'.ownsRow base 5 1 v' (xs ++ ys).length ((xs ++ ys).map (Value.int .u8)) → Below base w w' → LG Try.prog ops Q n ((d, v') :: E) rest w') : LG Try.prog ops Q n E (o :: rest) w := by
  obtain ⟨v', w', hrun, hj⟩ := append_oct w base u xs ys A m c B hown hO hb hbase
  refine lg_do hw (fun n a ha => ?_) hd hn (h v' w' (by rw [List.length_append, hO.1]; have := hj.1; rw [hO.1] at this; exact this) (joined_below hown hj (Below.refl _ _) hbase).1)
  simp [execOp, ho, hty, resolve, invoke, builtin, ha.eval hx, ha.eval hy, hrun, Result.andThen]
end
end Go.Proofs.Ytakbbenegojcdaa
