/-
  Contracts of slices.Grow (of nil) and slices.Concat (of three rows of nodes), which the program takes from Go's library.
-/
import Derived.Test.YtpoonjgkgaodmaaDoorTrWk
namespace Go.Proofs.YtpoonjgkgaodmaaDoor
open Go.ChangeShapes Go.WideShapes Go.ChangeAt Go.RowKit
set_option linter.unusedVariables false

def OwnR (w : World) (base : Nat) (ys : List Nd) (e : Ending) (w' : World) : Prop := ∃ v, e = .returned v ∧ OwnNd w' base base v ys ∧ Below base w w' ∧ base ≤ w'.heap.size
theorem wpList_append_nds (w : World) {ops : Array Oper} {rest : List Oper} {o : Oper} {a : Act} {Q : Exit → Act → World → Prop} (hgd : o.guard = none) (s x : Operand)
    (ho : o.op = .call { callee := .builtin .append, args := #[s, x], argTypes := #[22, 22] }) (hty : o.type = 22) (base : Nat) (v : Value) (xs ys : List Nd) (A : Option Addr) (m c : Nat)
    (hs : a.eval s = v) (hx : a.eval x = .slice A m c) (hown : OwnNd w base base v xs) (hO : SrcNd w base ⟨A, m, c⟩ ys) (hb : xs.length + ys.length ≤ 1000000) (hbase : base ≤ w.heap.size)
    (h : ∀ v' w', OwnNd w' base base v' (xs ++ ys) → Below base w w' → wpList Tryd.prog ops Q rest (a.put o.dst v') w') : wpList Tryd.prog ops Q (o :: rest) a w := by
  refine wpList_plain hgd fun K hK => ?_
  obtain ⟨v', w', hrun, h1, h2, _⟩ := append_nds w base base v xs ys ⟨A, m, c⟩ hown hO (Nat.le_refl _) hb hbase
  unfold Oper.wp
  simp [execOp, ho, hty, resolve, invoke, builtin, hs, hx, hrun, Result.andThen]
  exact hK _ _ (h v' w' h1 h2)
set_option maxRecDepth 20000 in
theorem growR_nil (n : Nat) (m : Int) (hm : m = n) (w : World) (hn : n ≤ 1000000) :
    Calls Tryd.prog 52 #[.slice none 0 0, .int .i64 m] w (OwnR w w.heap.size []) := by
  subst hm
  obtain ⟨i0, hi0, hz0, hz1, hz2⟩ := info_parts infoNd
  by_cases h0 : n = 0
  · subst h0
    go_enter Tryd.func52, Tryd.ntmps52
    go_wp2
    go_ret
    exact ⟨_, rfl, OwnNd.nil _ _ _, Below.refl _ _, Nat.le_refl _⟩
  · have hr := Lib.run_append_nil_zeros (P := Tryd.prog) w 22 3 22 30 i0 _ .i64 .i64 Tryd.underlying22 Tryd.underlying3 hi0 hz0 n (by omega) (by omega) (by omega) (by rw [hz2]; omega)
    have hG := grownCap_ge w n 0 30
    have hG2 := grownCap_le_maxLen w n 0 30 (by unfold maxLen; omega)
    generalize grownCap w n 0 30 = G at *
    have HR := Lib.hid hr
    have hpos : 0 < n := by omega
    have hG3 : G ≤ 9223372036854775807 := hG2
    clear hr hG2
    go_enter Tryd.func52, Tryd.ntmps52
    go_wp2_with (at_builtin; refine Lib.wpList_append_run _ rfl _ _ _ _ rfl _ _ rfl rfl _ _ HR.out ?_)
    go_ret
    refine ⟨_, rfl, ⟨[], rfl, ⟨rfl, .inr ⟨w.heap.size, G, _, rfl, Nat.le_refl _, heap_alloc_new w.drew _, Nat.zero_le _, hG3, ?_, rfl⟩⟩, fun p hp => by cases hp⟩, ((Below.refl _ _).drew).alloc (Nat.le_refl _) _, by simp⟩
    rw [Array.size_append, size_zeroCells, size_zeroCells]
    show n * 8 + (G - n) * 8 = G * 8
    omega

/-- How far the sum of three lengths has come. -/
def CatSumR (n1 n2 n3 : Nat) (s i : Value) : Prop :=
  (i = .int .i64 0 ∧ s = .int .i64 0) ∨ (i = .int .i64 1 ∧ s = .int .i64 n1) ∨ (i = .int .i64 2 ∧ s = .int .i64 ((n1 : Int) + n2)) ∨ (i = .int .i64 3 ∧ s = .int .i64 ((n1 : Int) + n2 + n3))
/-- How far three rows have been joined. -/
def CatRowR (w : World) (x1 x2 x3 : List Nd) (v i : Value) (w' : World) : Prop :=
  Below w.heap.size w w' ∧ w.heap.size ≤ w'.heap.size ∧
  ((i = .int .i64 0 ∧ OwnNd w' w.heap.size w.heap.size v []) ∨
   (i = .int .i64 1 ∧ OwnNd w' w.heap.size w.heap.size v x1) ∨
   (i = .int .i64 2 ∧ OwnNd w' w.heap.size w.heap.size v (x1 ++ x2)) ∨
   (i = .int .i64 3 ∧ OwnNd w' w.heap.size w.heap.size v (x1 ++ x2 ++ x3)))
theorem concatR (b n1 n2 n3 c1 c2 c3 : Nat) (A1 A2 A3 : Option Addr) (x1 x2 x3 : List Nd) (w : World)
    (h1 : RwNd w w.heap.size ⟨A1, n1, c1⟩ x1) (h2 : RwNd w w.heap.size ⟨A2, n2, c2⟩ x2) (h3 : RwNd w w.heap.size ⟨A3, n3, c3⟩ x3) (hb : b < w.heap.size)
    (e1 : w.cell? ⟨b, 0, none⟩ = some (.slice A1 n1 c1)) (e2 : w.cell? ⟨b, 1, none⟩ = some (.slice A2 n2 c2)) (e3 : w.cell? ⟨b, 2, none⟩ = some (.slice A3 n3 c3))
    (hn : n1 + n2 + n3 ≤ 1000000) :
    Calls Tryd.prog 31 #[.slice (some ⟨b, 0, none⟩) 3 3] w (OwnR w w.heap.size (x1 ++ x2 ++ x3)) := by
  have H1 := Lib.hid h1
  have H2 := Lib.hid h2
  have H3 := Lib.hid h3
  have L1 : Hid (x1.length = n1) := Lib.hid h1.len
  have L2 : Hid (x2.length = n2) := Lib.hid h2.len
  have L3 : Hid (x3.length = n3) := Lib.hid h3.len
  have E1 := Lib.hid e1
  have E2 := Lib.hid e2
  have E3 := Lib.hid e3
  clear h1 h2 h3 e1 e2 e3
  go_enter Tryd.func31, Tryd.ntmps31
  go_wp2
  go_loop [3, 11] (fun s i => CatSumR n1 n2 n3 s i) (fun _ i => 3 - (intOf i).toNat)
  case atStart => exact .inl ⟨rfl, rfl⟩
  case round =>
    rcases hrel with ⟨rfl, rfl⟩ | ⟨rfl, rfl⟩ | ⟨rfl, rfl⟩ | ⟨rfl, rfl⟩
    · have e := E1.out
      go_wp2
      go_round
      case rel => exact .inr (.inl ⟨rfl, rfl⟩)
      case measure => simp [intOf]
    · have e := E2.out
      go_wp2
      go_round
      case rel => exact .inr (.inr (.inl ⟨rfl, rfl⟩))
      case measure => simp [intOf]
    · have e := E3.out
      go_wp2
      go_round
      case rel => exact .inr (.inr (.inr ⟨rfl, rfl⟩))
      case measure => simp [intOf]
    · go_wp2_with fail
      refine (growR_nil (n1 + n2 + n3) _ (by omega) _ hn).mono ?_
      rintro e w1 ⟨v1, rfl, how1, hb1, hs1⟩
      have HOW1 := Lib.hid how1
      clear how1
      go_wp2_with fail
      go_loopw [6, 27] (fun v i w' => CatRowR w x1 x2 x3 v i w') (fun _ i _ => 3 - (intOf i).toNat)
      case atStart => exact ⟨hb1, hs1, .inl ⟨rfl, HOW1.out⟩⟩
      case round =>
        rcases hrel with ⟨hb2, hs2, ⟨rfl, how2⟩ | ⟨rfl, how2⟩ | ⟨rfl, how2⟩ | ⟨rfl, how2⟩⟩
        · have HOW2 := Lib.hid how2
          have e := (hb2.cell (p := ⟨b, 0, none⟩) hb).trans E1.out
          clear how2
          go_wp2_with (at_builtin
                       refine wpList_append_nds _ rfl (.tmp 31) (.tmp 32) rfl rfl w.heap.size _ [] x1 A1 n1 c1 rfl rfl ?hown ?hO ?hb ?hbase ?_
                       case hown => exact HOW2.out
                       case hO => exact (H1.out.below hb2).src
                       case hb => simp [L1.out]; omega
                       case hbase => exact hs2
                       intro v4 w4 hj4 hb4
                       have H4 := Lib.hid hj4
                       clear hj4)
          go_roundw
          case rel =>
            have h4 := H4.out
            exact ⟨hb2.trans hb4, Nat.le_trans hs2 hb4.size, .inr (.inl ⟨rfl, h4⟩)⟩
          case measure => simp [intOf]
        · have HOW2 := Lib.hid how2
          have e := (hb2.cell (p := ⟨b, 1, none⟩) hb).trans E2.out
          clear how2
          go_wp2_with (at_builtin
                       refine wpList_append_nds _ rfl (.tmp 31) (.tmp 32) rfl rfl w.heap.size _ x1 x2 A2 n2 c2 rfl rfl ?hown ?hO ?hb ?hbase ?_
                       case hown => exact HOW2.out
                       case hO => exact (H2.out.below hb2).src
                       case hb => simp [L1.out, L2.out]; omega
                       case hbase => exact hs2
                       intro v4 w4 hj4 hb4
                       have H4 := Lib.hid hj4
                       clear hj4)
          go_roundw
          case rel =>
            have h4 := H4.out
            exact ⟨hb2.trans hb4, Nat.le_trans hs2 hb4.size, .inr (.inr (.inl ⟨rfl, h4⟩))⟩
          case measure => simp [intOf]
        · have HOW2 := Lib.hid how2
          have e := (hb2.cell (p := ⟨b, 2, none⟩) hb).trans E3.out
          clear how2
          go_wp2_with (at_builtin
                       refine wpList_append_nds _ rfl (.tmp 31) (.tmp 32) rfl rfl w.heap.size _ (x1 ++ x2) x3 A3 n3 c3 rfl rfl ?hown ?hO ?hb ?hbase ?_
                       case hown => exact HOW2.out
                       case hO => exact (H3.out.below hb2).src
                       case hb => simp [L1.out, L2.out, L3.out]; omega
                       case hbase => exact hs2
                       intro v4 w4 hj4 hb4
                       have H4 := Lib.hid hj4
                       clear hj4)
          go_roundw
          case rel =>
            have h4 := H4.out
            exact ⟨hb2.trans hb4, Nat.le_trans hs2 hb4.size, .inr (.inr (.inr ⟨rfl, h4⟩))⟩
          case measure => simp [intOf]
        · have HOW2 := Lib.hid how2
          clear how2
          go_wp2
          go_ret
          exact ⟨_, rfl, HOW2.out, hb2, hs2⟩
theorem concatR_S {W : World} {b : Nat} {tr : TypeId} {s1 s2 s3 : SlV} {x1 x2 x3 : List Nd} (r : RowAt W b tr #[s1.v, s2.v, s3.v]) (h1 : RwNd W W.heap.size s1 x1) (h2 : RwNd W W.heap.size s2 x2) (h3 : RwNd W W.heap.size s3 x3) (hn : x1.length + x2.length + x3.length ≤ 1000000) :
    Calls Tryd.prog 31 #[.slice (some ⟨b, 0, none⟩) 3 3] W fun e W' => ∃ v, e = .returned v ∧ ∃ s : SlV, v = s.v ∧ RwNd W' W'.heap.size s (x1 ++ x2 ++ x3) ∧ Below W.heap.size W W' := by
  have l1 := h1.len
  have l2 := h2.len
  have l3 := h3.len
  refine (concatR b s1.m s2.m s3.m s1.c s2.c s3.c s1.A s2.A s3.A x1 x2 x3 W h1 h2 h3 r.lt (by rw [cell_of_row W b 0 _ tr _ r]; rfl) (by rw [cell_of_row W b 1 _ tr _ r]; rfl) (by rw [cell_of_row W b 2 _ tr _ r]; rfl) (by omega)).mono fun e W' hR => ?_
  obtain ⟨v, rfl, ho, hb, hs⟩ := hR
  obtain ⟨s, rfl, hr⟩ := ho.row hs
  exact ⟨_, rfl, s, rfl, hr, hb⟩
end Go.Proofs.YtpoonjgkgaodmaaDoor
