/-
  Contracts of slices.Grow (of nil) and slices.Concat (of two slices of whole numbers), which the program takes from Go's library.
-/
import Derived.Test.YtkcpmpbjjnknhaaGreatDoorKitA
import Derived.Lib.Hide
import Derived.Lib.AppendZeros
namespace Go.Proofs.YtkcpmpbjjnknhaaGreatDoor
open Go.ChangeShapes Go.WideShapes Go.ChangeAt Go.RowKit
set_option linter.unusedVariables false

def OwnNu (w : World) (base : Nat) (ys : List Int) (e : Ending) (w' : World) : Prop :=
  ∃ v, e = .returned v ∧ w'.ownsRow base 3 1 v ys.length (ys.map (Value.int .i64)) ∧ Below base w w' ∧ base ≤ w'.heap.size
def JoinedNu (w : World) (base : Nat) (v : Value) (xs ys : List Int) (v' : Value) (w' : World) : Prop :=
  w'.ownsRow base 3 1 v' (xs.length + ys.length) ((xs ++ ys).map (Value.int .i64)) ∧ w.grownBy w' v.ownBlock
theorem wpList_append_nums (w : World) {ops : Array Oper} {rest : List Oper} {o : Oper} {a : Act} {Q : Exit → Act → World → Prop} (hgd : o.guard = none) (s x : Operand)
    (ho : o.op = .call { callee := .builtin .append, args := #[s, x], argTypes := #[23, 23] }) (hty : o.type = 23) (base : Nat) (v : Value) (xs ys : List Int) (A : Option Addr) (m c B : Nat)
    (hs : a.eval s = v) (hx : a.eval x = .slice A m c) (hown : w.ownsRow base 3 1 v xs.length (xs.map (Value.int .i64))) (hO : Nums w B A m ys) (hb : xs.length + m ≤ 1000000000000) (hbase : base ≤ w.heap.size)
    (h : ∀ v' w', JoinedNu w base v xs ys v' w' → wpList Tryz.prog ops Q rest (a.put o.dst v') w') : wpList Tryz.prog ops Q (o :: rest) a w := by
  refine wpList_plain hgd fun K hK => ?_
  obtain ⟨v', w', hrun, h1, h2⟩ := append_nums w base v xs ys A m c B hown hO hb hbase
  unfold Oper.wp
  simp [execOp, ho, hty, resolve, invoke, builtin, hs, hx, hrun, Result.andThen]
  exact hK _ _ (h v' w' ⟨by rw [← List.length_append]; exact h1, h2⟩)
theorem joinedNums_below {w0 w w' : World} {base : Nat} {v v' : Value} {xs ys : List Int} {n : Nat} {l : List Value} (hown : w.ownsRow base 3 1 v n l) (h : JoinedNu w base v xs ys v' w') (hb : Below base w0 w) (hB : base ≤ w.heap.size) : Below base w0 w' ∧ base ≤ w'.heap.size :=
  ⟨hb.grown h.2 hB (fun k hk => (hown.lt k hk).1), Nat.le_trans hB h.2.size⟩
set_option maxRecDepth 20000 in
theorem growN_nil (n : Nat) (m : Int) (hm : m = n) (w : World) (hn : n ≤ 1000000000000) :
    Calls Tryz.prog 149 #[.slice none 0 0, .int .i64 m] w (OwnNu w w.heap.size []) := by
  subst hm
  obtain ⟨i0, hi0, hz0, hz1, hz2⟩ := info_parts infoInt
  by_cases h0 : n = 0
  · subst h0
    go_enter Tryz.func149, Tryz.ntmps149
    go_wp2
    go_ret
    exact ⟨_, rfl, ⟨rfl, .inl ⟨rfl, rfl⟩⟩, Below.refl _ _, Nat.le_refl _⟩
  · have hr := Lib.run_append_nil_zeros (P := Tryz.prog) w 23 3 23 3 i0 _ .i64 .i64 Tryz.underlying23 Tryz.underlying3 hi0 hz0 n (by omega) (by omega) (by omega) (by rw [hz2]; omega)
    have hG := grownCap_ge w n 0 3
    have hG2 := grownCap_le_maxLen w n 0 3 (by unfold maxLen; omega)
    generalize grownCap w n 0 3 = G at *
    have HR := Lib.hid hr
    have hpos : 0 < n := by omega
    have hG3 : G ≤ 9223372036854775807 := hG2
    clear hr hG2
    go_enter Tryz.func149, Tryz.ntmps149
    go_wp2_with (at_builtin; refine Lib.wpList_append_run _ rfl _ _ _ _ rfl _ _ rfl rfl _ _ HR.out ?_)
    go_ret
    refine ⟨_, rfl, ⟨rfl, .inr ⟨w.heap.size, G, _, rfl, Nat.le_refl _, heap_alloc_new w.drew _, Nat.zero_le _, hG3, ?_, rfl⟩⟩, ((Below.refl _ _).drew).alloc (Nat.le_refl _) _, by simp⟩
    rw [Array.size_append, size_zeroCells, size_zeroCells]
    simp
    omega

/-- How far the sum of two lengths has come. -/
def CatSumN (n1 n2 : Nat) (s i : Value) : Prop :=
  (i = .int .i64 0 ∧ s = .int .i64 0) ∨ (i = .int .i64 1 ∧ s = .int .i64 n1) ∨ (i = .int .i64 2 ∧ s = .int .i64 ((n1 : Int) + n2))
/-- How far two slices of whole numbers have been joined. -/
def CatRowN (w : World) (x1 x2 : List Int) (v i : Value) (w' : World) : Prop :=
  Below w.heap.size w w' ∧ w.heap.size ≤ w'.heap.size ∧
  ((i = .int .i64 0 ∧ w'.ownsRow w.heap.size 3 1 v ([] : List Int).length (([] : List Int).map (Value.int .i64))) ∨
   (i = .int .i64 1 ∧ w'.ownsRow w.heap.size 3 1 v x1.length (x1.map (Value.int .i64))) ∨
   (i = .int .i64 2 ∧ w'.ownsRow w.heap.size 3 1 v (x1 ++ x2).length ((x1 ++ x2).map (Value.int .i64))))
theorem concatN_two (b n1 n2 c1 c2 B : Nat) (A1 A2 : Option Addr) (x1 x2 : List Int) (w : World)
    (h1 : Nums w B A1 n1 x1) (h2 : Nums w B A2 n2 x2) (hB : B ≤ w.heap.size) (hb : b < w.heap.size)
    (e1 : w.cell? ⟨b, 0, none⟩ = some (.slice A1 n1 c1)) (e2 : w.cell? ⟨b, 1, none⟩ = some (.slice A2 n2 c2))
    (hn : n1 + n2 ≤ 1000000000000) :
    Calls Tryz.prog 118 #[.slice (some ⟨b, 0, none⟩) 2 2] w (OwnNu w w.heap.size (x1 ++ x2)) := by
  have H1 := Lib.hid h1
  have H2 := Lib.hid h2
  have L1 := Lib.hid h1.1
  have L2 := Lib.hid h2.1
  have E1 := Lib.hid e1
  have E2 := Lib.hid e2
  clear h1 h2 e1 e2
  go_enter Tryz.func118, Tryz.ntmps118
  go_wp2
  go_loop [3, 11] (fun s i => CatSumN n1 n2 s i) (fun _ i => 2 - (intOf i).toNat)
  case atStart => exact .inl ⟨rfl, rfl⟩
  case round =>
    rcases hrel with ⟨rfl, rfl⟩ | ⟨rfl, rfl⟩ | ⟨rfl, rfl⟩
    · have e := E1.out
      go_wp2
      go_round
      case rel => exact .inr (.inl ⟨rfl, rfl⟩)
      case measure => simp [intOf]
    · have e := E2.out
      go_wp2
      go_round
      case rel => exact .inr (.inr ⟨rfl, rfl⟩)
      case measure => simp [intOf]
    · go_wp2_with fail
      refine (growN_nil (n1 + n2) _ (by omega) _ hn).mono ?_
      rintro e w1 ⟨v1, rfl, how1, hb1, hs1⟩
      have HOW1 := Lib.hid how1
      clear how1
      go_wp2_with fail
      go_loopw [6, 27] (fun v i w' => CatRowN w x1 x2 v i w') (fun _ i _ => 2 - (intOf i).toNat)
      case atStart => exact ⟨hb1, hs1, .inl ⟨rfl, HOW1.out⟩⟩
      case round =>
        rcases hrel with ⟨hb2, hs2, ⟨rfl, how2⟩ | ⟨rfl, how2⟩ | ⟨rfl, how2⟩⟩
        · have HOW2 := Lib.hid how2
          have e := (hb2.cell (p := ⟨b, 0, none⟩) hb).trans E1.out
          clear how2
          go_wp2_with (at_builtin
                       refine wpList_append_nums _ rfl (.tmp 31) (.tmp 32) rfl rfl w.heap.size _ [] x1 A1 n1 c1 B rfl rfl ?hown ?hO ?hb ?hbase ?_
                       case hown => exact HOW2.out
                       case hO => exact H1.out.below (hb2.mono hB)
                       case hb => simp; omega
                       case hbase => exact hs2
                       intro v4 w4 hj4
                       have hb4 := joinedNums_below HOW2.out hj4 hb2 hs2
                       have H4 := Lib.hid hj4.1
                       clear hj4)
          go_roundw
          case rel =>
            have h4 := H4.out
            rw [← List.length_append] at h4
            exact ⟨hb4.1, hb4.2, .inr (.inl ⟨rfl, h4⟩)⟩
          case measure => simp [intOf]
        · have HOW2 := Lib.hid how2
          have e := (hb2.cell (p := ⟨b, 1, none⟩) hb).trans E2.out
          clear how2
          go_wp2_with (at_builtin
                       refine wpList_append_nums _ rfl (.tmp 31) (.tmp 32) rfl rfl w.heap.size _ x1 x2 A2 n2 c2 B rfl rfl ?hown ?hO ?hb ?hbase ?_
                       case hown => exact HOW2.out
                       case hO => exact H2.out.below (hb2.mono hB)
                       case hb => simp [L1.out]; omega
                       case hbase => exact hs2
                       intro v4 w4 hj4
                       have hb4 := joinedNums_below HOW2.out hj4 hb2 hs2
                       have H4 := Lib.hid hj4.1
                       clear hj4)
          go_roundw
          case rel =>
            have h4 := H4.out
            rw [← List.length_append] at h4
            exact ⟨hb4.1, hb4.2, .inr (.inr ⟨rfl, h4⟩)⟩
          case measure => simp [intOf]
        · have HOW2 := Lib.hid how2
          clear how2
          go_wp2
          go_ret
          exact ⟨_, rfl, HOW2.out, hb2, hs2⟩

end Go.Proofs.YtkcpmpbjjnknhaaGreatDoor
