/-
  The contract of the document's own GetNums; numbers appended to a row of the call's own.
-/
import Derived.Test.YtonlkmepdehdgaaWiRefP
namespace Go.Proofs.Ytonlkmepdehdgaa
open Go.ChangeShapes Go.WideShapes Go.ChangeAt Go.RowKit
set_option linter.unusedVariables false

/-- What an append of one number to an own row gives: the row holds both. -/
def JoinedNum (w : World) (base : Nat) (v : Value) (xs : List Int) (y : Int) (v' : Value) (w' : World) : Prop :=
  w'.ownsRow base 3 1 v' (xs.length + 1) ((xs ++ [y]).map (Value.int .i64)) ∧ w.grownBy w' v.ownBlock ∧ (v'.ownBlock = v.ownBlock ∨ v'.ownBlock = some w.heap.size)

theorem append_num (w : World) (base : Nat) (v : Value) (xs : List Int) (y : Int) (g : Nat) (hown : w.ownsRow base 3 1 v xs.length (xs.map (Value.int .i64))) (hc : w.cell? ⟨g, 0, none⟩ = some (.int .i64 y))
    (hb : xs.length ≤ 1000000000) (hbase : base ≤ w.heap.size) :
    ∃ v' w', (Builtin.append_ #[23, 23] 23 #[v, .slice (some ⟨g, 0, none⟩) 1 1]).run Try.prog w = .ok v' w' ∧ JoinedNum w base v xs y v' w' := by
  obtain ⟨i0, hi0, hz0, hz1, hz2⟩ := info_parts infoInt
  obtain ⟨v', w', hrun, h1, h2, _, h3⟩ := run_append_own_at (P := Try.prog) w base 23 23 3 i0 _ 1 8 Try.underlying23 hi0 hz0 hz1 hz2 rfl (by omega) v _ _ hown ⟨g, 0, none⟩ 1 1 ([y].map (Value.int .i64)) rfl (fun j u hj => by
    match j, hj with
    | 0, hj =>
      simp at hj
      subst hj
      rw [Addr.add_lit]
      exact hc
    | j + 1, hj => simp at hj) (ints_oneCell _ _) (by unfold maxLen; omega) (by omega) hbase
  exact ⟨v', w', hrun, by rw [List.map_append]; exact h1, h2, h3⟩

theorem wpList_append_num (w : World) {ops : Array Oper} {rest : List Oper} {o : Oper} {a : Act} {Q : Exit → Act → World → Prop} (hgd : o.guard = none) (s x : Operand)
    (ho : o.op = .call { callee := .builtin .append, args := #[s, x], argTypes := #[23, 23] }) (hty : o.type = 23) (base : Nat) (v : Value) (xs : List Int) (y : Int) (g : Nat)
    (hs : a.eval s = v) (hx : a.eval x = .slice (some ⟨g, 0, none⟩) 1 1) (hown : w.ownsRow base 3 1 v xs.length (xs.map (Value.int .i64))) (hc : w.cell? ⟨g, 0, none⟩ = some (.int .i64 y)) (hb : xs.length ≤ 1000000000) (hbase : base ≤ w.heap.size)
    (h : ∀ v' w', JoinedNum w base v xs y v' w' → wpList Try.prog ops Q rest (a.put o.dst v') w') : wpList Try.prog ops Q (o :: rest) a w := by
  refine wpList_plain hgd fun K hK => ?_
  obtain ⟨v', w', hrun, hj⟩ := append_num w base v xs y g hown hc hb hbase
  unfold Oper.wp
  simp [execOp, ho, hty, resolve, invoke, builtin, hs, hx, hrun, Result.andThen]
  exact hK _ _ (h v' w' hj)

theorem joinedNum_below {w0 w w' : World} {base : Nat} {v v' : Value} {xs : List Int} {y : Int} {n : Nat} {l : List Value} (hown : w.ownsRow base 3 1 v n l) (h : JoinedNum w base v xs y v' w') (hb : Below base w0 w) (hB : base ≤ w.heap.size) : Below base w0 w' ∧ base ≤ w'.heap.size :=
  ⟨hb.grown h.2.1 hB (fun k hk => (hown.lt k hk).1), Nat.le_trans hB h.2.1.size⟩

/-- An own row is kept by whatever leaves what was there. -/
theorem own_below {w w' : World} {base e size n : Nat} {v : Value} {xs : List Value} (h : w.ownsRow base e size v n xs) (hb : Below w.heap.size w w') : w'.ownsRow base e size v n xs := by
  refine ⟨h.1, ?_⟩
  rcases h.2 with h | ⟨g, cap, cur, rfl, hg, hh, h1, h2, h3, h4⟩
  · exact .inl h
  · have hlt : g < w.heap.size := (h.lt g rfl).2
    exact .inr ⟨g, cap, cur, rfl, hg, (hb.block g hlt).trans hh, h1, h2, h3, h4⟩

theorem own_nums_any {w : World} {base n : Nat} {v : Value} {ys : List Int} (h : w.ownsRow base 3 1 v n (ys.map (Value.int .i64))) : ∃ A cap, v = .slice A n cap ∧ Nums w w.heap.size A n ys := by
  have hl : ys.length = n := by simpa using h.1
  rcases h.2 with ⟨rfl, rfl⟩ | ⟨g, cap, cur, rfl, _⟩
  · have e : ys = [] := List.eq_nil_of_length_eq_zero hl
    subst e
    exact ⟨none, 0, rfl, Nums.nil _ _ _⟩
  · refine ⟨_, cap, rfl, hl, fun _ => ⟨g, 0, rfl, (h.lt g rfl).2, fun i x hx => ?_⟩⟩
    have := h.cells (g := g) rfl i (.int .i64 x) (by rw [List.getElem?_map, hx]; rfl)
    rwa [Addr.add_lit] at this

set_option maxHeartbeats 1000000 in
theorem rgetNums_any (A : Option Addr) (n c B : Nat) (xs : List Int) (w : World) (hO : Oct w B A n xs) (hnc : n ≤ c) (hcm : c ≤ maxLen) (hB : B ≤ w.heap.size) :
    Calls Try.prog 15 #[.slice A n c] w (GotNums w B (numsL xs) (numsR xs) (numsE xs)) := by
  have Hc := Lib.hid (rgetBytes_any A n c B xs w hO hnc hcm hB)
  have hle := bytesP_le xs hO.2.1
  clear hO
  by_cases hE : bytesE xs = 0
  · by_cases h4 : (bytesP xs).length % 4 = 0
    · have e1 : numsE xs = 0 := by simp [numsE, hE, h4]
      have e2 : numsL xs = fours (bytesP xs) := by simp [numsL, e1]
      have e3 : numsR xs = bytesR xs := by simp [numsR, e1]
      rw [e1, e2, e3]
      rw [hE] at Hc
      generalize bytesP xs = ps at *
      generalize bytesR xs = rs at *
      obtain ⟨k, hk⟩ : ∃ k, ps.length / 4 = k := ⟨_, rfl⟩
      have hk4 : ps.length = 4 * k := by omega
      have HK := Lib.hid hk
      have HK4 := Lib.hid hk4
      have hkb : k ≤ 262144 := by omega
      clear e1 e2 e3 hE h4 hk hk4 hle
      go_enter Try.func15, Try.ntmps15
      go_wp2_with fail
      refine Hc.out.mono ?_
      rintro e w1 ⟨A1, n1, c1, A2, n2, c2, rfl, hn1, hc1, hn2, hc2, hO1, hO2, hb1⟩
      have hc1' : c1 ≤ 9223372036854775807 := hc1
      obtain rfl : n1 = 4 * k := by rw [← hO1.1, HK4.out]
      have HO1 := Lib.hid hO1
      have HO2 := Lib.hid hO2
      clear hO1 hO2
      have k1 := hb1.size
      have HF : Hid ((fours ps).length = k) := by show _ = _; rw [fours_length, HK.out]
      go_wp2_with fail
      go_loopw [5, 8] (fun v u w' => ∃ (j m : Nat) (A' : Option Addr) (c' : Nat), j + m ≤ k ∧ k ≤ j + m ∧ v = .slice A' (4 * m) c' ∧ 4 * m ≤ c' ∧ c' ≤ maxLen ∧ Hid (Oct w' B A' (4 * m) (ps.drop (4 * j))) ∧ Hid (w'.ownsRow w1.heap.size 3 1 u j (((fours ps).take j).map (Value.int .i64))) ∧ Below w1.heap.size w1 w' ∧ w1.heap.size ≤ w'.heap.size) (fun v _ _ => match v with | .slice _ n _ => n | _ => 0)
      case atStart => exact ⟨0, k, A1, c1, by omega, by omega, rfl, hn1, hc1, HO1, Lib.hid ⟨rfl, .inl ⟨rfl, rfl⟩⟩, Below.refl _ _, Nat.le_refl _⟩
      case round =>
        obtain ⟨j, m, A', c', hm1, hm2, rfl, g1, g2, H1, H2, hb2, hs2⟩ := hrel
        have g2' : c' ≤ 9223372036854775807 := g2
        by_cases hlt : 0 < m
        · obtain ⟨r, rfl⟩ : ∃ r, m = r + 1 := ⟨m - 1, by omega⟩
          have HS := Lib.hid (fours_step ps j (by rw [HK.out]; omega))
          have HT : Hid (((fours ps).take j).length = j) := by show _ = _; rw [List.length_take, HF.out]; omega
          have hdl : (ps.drop (4 * j)).length = 4 * r + 4 := by rw [H1.out.1]; omega
          have m1 : numM (ps.drop (4 * j)) 4 = numV ((ps.drop (4 * j)).take 4) := by rw [numM, show widthK 4 = 4 from rfl, if_neg (by omega)]
          have m2 : numR (ps.drop (4 * j)) 4 = ps.drop (4 * (j + 1)) := by rw [numR, show widthK 4 = 4 from rfl, if_neg (by omega), List.drop_drop]; rfl
          have m3 : numE (ps.drop (4 * j)) 4 = 0 := by rw [numE, show widthK 4 = 4 from rfl, if_neg (by omega)]
          have HG := Lib.hid (rgetNum_any A' (4 * (r + 1)) c' B (ps.drop (4 * j)) 4 wr H1.out g1 g2)
          rw [m1, m2, m3] at HG
          have hl2 : (ps.drop (4 * (j + 1))).length = 4 * r := by rw [List.length_drop, HK4.out]; omega
          have HL2 := Lib.hid hl2
          clear m1 m2 m3 hdl hl2
          generalize numV ((ps.drop (4 * j)).take 4) = y at HS HG
          go_wp2_with fail
          refine HG.out.mono ?_
          rintro e w2 ⟨A3, n3, c3, rfl, g31, g32, hO3, hb3⟩
          obtain rfl : n3 = 4 * r := by rw [← hO3.1, HL2.out]
          have H3 := Lib.hid hO3
          clear hO3
          have H4 := Lib.hid (own_below H2.out hb3)
          have hb4 : Below w1.heap.size w1 w2 := hb2.trans (hb3.mono hs2)
          have hs4 : w1.heap.size ≤ w2.heap.size := Nat.le_trans hs2 hb3.size
          have hc5 : (w2.alloc (.cells #[.int .i64 y] 3)).cell? ⟨w2.heap.size, 0, none⟩ = some (.int .i64 y) := by
            rw [cell_of_row _ _ 0 #[.int .i64 y] 3 (0, 0) (heap_alloc_new w2 _)]; rfl
          go_wp2_with (at_builtin
                       refine wpList_append_num _ rfl (.tmp 34) (.tmp 36) rfl rfl w1.heap.size _ ((fours ps).take j) y w2.heap.size rfl rfl ?hown ?hc ?hb ?hbase ?_
                       case hown => rw [HT.out]; exact H4.out.alloc _
                       case hc => exact hc5
                       case hb => rw [HT.out]; omega
                       case hbase => simp; omega
                       intro v6 w6 hj6
                       have hb6 := joinedNum_below (H4.out.alloc _) hj6 (hb4.alloc hs4 _) (by simp; omega)
                       have hb7 := (joinedNum_below (H4.out.alloc _) hj6 ((Below.refl _ w2).alloc hs4 _) (by simp; omega)).1
                       have h6 := hj6.1
                       rw [← HS.out, HT.out] at h6
                       have H6 := Lib.hid h6
                       clear h6 hj6)
          go_roundw
          case rel => exact ⟨j + 1, r, A3, c3, by omega, by omega, rfl, g31, g32, Lib.hid (H3.out.below (hb7.mono (Nat.le_trans hB k1))), H6, hb6.1, hb6.2⟩
          case measure => simp <;> omega
        · obtain rfl : m = 0 := by omega
          obtain rfl : j = k := by omega
          have e : (fours ps).take j = fours ps := by
            conv => lhs; arg 1; rw [← HF.out]
            rw [List.take_length]
          rw [e] at H2
          clear e
          obtain ⟨A5, c5, rfl, hN5⟩ := own_nums_any H2.out
          have HN5 := Lib.hid hN5
          clear hN5
          go_wp2_with fail
          go_ret3
          exact ⟨_, _, _, A2, n2, c2, rfl, hn2, hc2, HN5.out, HO2.out.below (hb2.mono (Nat.le_trans hB k1)), hb1.trans (hb2.mono k1)⟩
    · have e1 : numsE xs = 2 := by simp [numsE, hE, h4]
      have e2 : numsL xs = [] := by simp [numsL, e1]
      have e3 : numsR xs = [] := by simp [numsR, e1]
      rw [e1, e2, e3]
      rw [hE] at Hc
      generalize bytesP xs = ps at *
      generalize bytesR xs = rs at *
      clear e1 e2 e3 hE
      go_enter Try.func15, Try.ntmps15
      go_wp2_with fail
      refine Hc.out.mono ?_
      rintro e w1 ⟨A1, n1, c1, A2, n2, c2, rfl, hn1, hc1, hn2, hc2, hO1, hO2, hb1⟩
      have hm : ¬ n1 % 4 = 0 := by rw [← hO1.1]; exact h4
      have hc1' : c1 ≤ 9223372036854775807 := hc1
      clear hO1 hO2 h4
      have hm2 : ((n1 : Int) % 4 != 0) = true := by simp; omega
      have hm3 : (n1 % 4 == 0) = false := by simp; omega
      go_wp2
      go_ret3
      exact ⟨none, 0, 0, none, 0, 0, rfl, Nat.le_refl _, Nat.zero_le _, Nums.nil _ _ _, Oct.nil _ _ _, hb1⟩
  · have e1 : numsE xs = bytesE xs := by simp [numsE, hE]
    have e2 : numsL xs = [] := by simp [numsL, e1, hE]
    have e3 : numsR xs = [] := by simp [numsR, e1, hE]
    rw [e1, e2, e3]
    have hne : (bytesE xs != 0) = true := by simpa using hE
    generalize bytesE xs = ee at *
    generalize bytesP xs = ps at *
    generalize bytesR xs = rs at *
    clear e1 e2 e3 hE
    go_enter Try.func15, Try.ntmps15
    go_wp2_with fail
    refine Hc.out.mono ?_
    rintro e w1 ⟨A1, n1, c1, A2, n2, c2, rfl, hn1, hc1, hn2, hc2, hO1, hO2, hb1⟩
    clear hO1 hO2
    go_wp2
    go_ret3
    exact ⟨none, 0, 0, none, 0, 0, rfl, Nat.le_refl _, Nat.zero_le _, Nums.nil _ _ _, Oct.nil _ _ _, hb1⟩
end Go.Proofs.Ytonlkmepdehdgaa
