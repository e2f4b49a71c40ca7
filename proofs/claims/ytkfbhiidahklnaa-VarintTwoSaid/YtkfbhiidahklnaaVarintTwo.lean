/-
  For every slice of ints l the statement VarintTwo returns true: numbers that are put one behind the other are got in order, and then the rest is nothing; no condition.
-/
import Derived.Test.YtkfbhiidahklnaaRows
import Derived.Test.YtkfbhiidahklnaaApp
import Derived.WalkKit
import Derived.ProofKit
import Derived.OpenShut
import Derived.ShutString
import Derived.ChangeOld
import Derived.Below
namespace Go.Proofs.Ytkfbhiidahklnaa
namespace varintTwo
open Go.ChangeShapes Go.WideShapes Go.ChangeAt Go.RowKit
open Go.ChangeMaps (open_string shut_string)
set_option linter.unusedVariables false

theorem own : ownKnob Try.prog.godebug = none := by kernel_rfl
theorem laidOut : laidOutB Try.prog = true := by kernel_rfl


/-- The numbers of a slice of ints that came in, cell by cell. -/
theorem cells_of_row {w : World} {a0 : Option Addr} {len0 cap0 : Nat} {z0 : List Int} (h : IsRow .i64 w a0 len0 cap0 z0) : len0 ≤ maxLen ∧ len0 ≤ z0.length ∧
    (0 < len0 → ∃ b o, a0 = some ⟨b, o, none⟩ ∧ b < w.heap.size ∧ ∀ i (hi : i < z0.length), w.cell? ⟨b, o + i, none⟩ = some (.int .i64 z0[i])) := by
  rcases h with ⟨rfl, rfl, rfl, rfl⟩ | ⟨x, rfl, hl, hm, hz, hcell, hwz⟩
  · exact ⟨Nat.zero_le _, Nat.zero_le _, fun h => absurd h (by omega)⟩
  · refine ⟨by omega, by omega, fun hn => ?_⟩
    obtain ⟨b, off, spot⟩ := x
    have hc := hcell 0 (by omega)
    have hspot : spot = none := by simpa [Addr.add] using World.cell?_spot hc
    subst hspot
    refine ⟨b, off, rfl, World.block_lt_of_cell? w _ hc, fun i hi => ?_⟩
    have := hcell i hi
    rw [Addr.add_lit] at this
    rw [this, List.getD, List.getElem?_eq_getElem hi]; rfl

/-- The octets of numbers, one behind the other. -/
def octs (l : List Int) : List Int := (l.map octN).flatten

theorem octs_snoc (l : List Int) (m : Int) : octs (l ++ [m]) = octs l ++ octN m := by simp [octs]
theorem octs_len (l : List Int) : (octs l).length ≤ 4 * l.length := by
  induction l with
  | nil => simp [octs]
  | cons m l ih =>
    have h := octN_le m
    have e : octs (m :: l) = octN m ++ octs l := by simp [octs]
    rw [e, List.length_append, List.length_cons]
    omega
theorem octs_bytes (l : List Int) : ∀ y ∈ octs l, 0 ≤ y ∧ y ≤ 255 := by
  intro y hy
  simp only [octs, List.mem_flatten, List.mem_map] at hy
  obtain ⟨_, ⟨m, _, rfl⟩, hy⟩ := hy
  exact octN_bytes m y hy
theorem octs_drop (l : List Int) (i : Nat) (h : i < l.length) : octs (l.drop i) = octN l[i] ++ octs (l.drop (i + 1)) := by
  rw [List.drop_eq_getElem_cons h]; rfl

theorem two_step (z0 : List Int) (k j : Nat) (hs : ∀ m ∈ z0.take k, sizeN m ≠ 0) (hj : j < k) (hz : j < z0.length) :
    octs ((z0.take k).drop j) = octN z0[j] ++ octs ((z0.take k).drop (j + 1)) ∧ sizeN z0[j] ≠ 0 := by
  have hl : j < (z0.take k).length := by rw [List.length_take]; omega
  have e : (z0.take k)[j] = z0[j] := List.getElem_take
  refine ⟨by rw [octs_drop _ j hl, e], ?_⟩
  rw [← e]
  exact hs _ (List.getElem_mem hl)

/-- What holds ahead of each round of the first loop: b reads as the octets of the numbers so far. -/
def Inv1 (w : World) (z0 : List Int) (k n : Nat) (A : Option Addr) (W : World) : Prop :=
  Oct W W.heap.size A n (octs (z0.take k)) ∧ (∀ m ∈ z0.take k, sizeN m ≠ 0) ∧ Below w.heap.size w W
/-- And of the second one: b reads as the octets of the numbers that are left. -/
def Inv2 (w : World) (l : List Int) (j n : Nat) (A : Option Addr) (W : World) : Prop :=
  Oct W W.heap.size A n (octs (l.drop j)) ∧ Below w.heap.size w W

set_option maxHeartbeats 2000000 in
theorem walk (a0 : Option Addr) (len0 cap0 : Nat) (z0 : List Int) (w : World) (w0 : IsRow .i64 w a0 len0 cap0 z0) :
    Calls Try.prog 7 #[.slice a0 len0 cap0] w fun e w' => e = .returned (.bool true) ∧ Below w.heap.size w w' := by
  obtain ⟨hlm, hlz, hcells⟩ := cells_of_row w0
  clear w0
  have HC := Lib.hid hcells
  clear hcells
  unfold maxLen at hlm
  go_enter Try.func7, Try.ntmps7
  go_wp2_with fail
  refine (awake_any _).mono ?_
  rintro e w1 ⟨rfl, hb⟩
  go_wp2_with fail
  go_loopw [4, 5, 6] (fun b s i W => ∃ k A n c, k ≤ len0 ∧ k ≤ 50 ∧ i = .int .i64 (k : Nat) ∧ b = .slice A n c ∧ n ≤ c ∧ c ≤ maxLen ∧ s = .int .i64 (n : Nat) ∧ Inv1 w z0 k n A W) (fun _ _ i _ => 50 - (intOf i).toNat)
  case atStart => exact ⟨0, none, 0, 0, Nat.zero_le _, by omega, rfl, rfl, Nat.le_refl _, Nat.zero_le _, rfl, Oct.nil _ _ _, by simp, hb⟩
  case round =>
    obtain ⟨k, A, n, c, hk1, hk2, rfl, rfl, hnc, hcm, rfl, hinv⟩ := hrel
    have HI := Lib.hid hinv
    clear hinv hb
    have hbw := HI.out.2.2
    have kw := hbw.size
    have hn4 : n ≤ 200 := by
      have h1 := HI.out.1.1
      have h2 := octs_len (z0.take k)
      rw [List.length_take] at h2
      omega
    by_cases hlt : k < len0 ∧ k < 50
    · obtain ⟨hl1, hl2⟩ := hlt
      obtain ⟨b, o, rfl, hB, hc⟩ := HC.out (by omega)
      have hkz : k < z0.length := by omega
      have hcell := hc k hkz
      have HT : Hid (z0.take (k + 1) = z0.take k ++ [z0[k]]) := List.take_succ_eq_append_getElem hkz
      generalize z0[k] = m at *
      have hcw : wr.cell? ⟨b, o + k, none⟩ = some (.int .i64 m) := (hbw.cell hB).trans hcell
      clear hcell hc HC
      obtain ⟨L, hL⟩ : ∃ L, (octN m).length = L := ⟨_, rfl⟩
      have hL4 : L ≤ 4 := by rw [← hL]; exact octN_le m
      have HL := Lib.hid hL
      clear hL
      by_cases hz : sizeN m = 0
      · go_wp2_with (go_at_call 12; refine (size_any _ _).mono ?_; rintro e w' ⟨rfl, rfl⟩)
        go_ret
        exact ⟨rfl, hbw⟩
      · have HZ := Lib.hid hz
        have hLz : ((L : Int) == 0) = false := by
          have := octN_length m
          rw [HL.out] at this
          simp
          omega
        clear hz
        go_wp2_with fail
        refine (size_len m L _ HL.out).mono ?_
        rintro e w' ⟨rfl, rfl⟩
        go_wp2_with fail
        refine (put_some A n c wr.heap.size _ m wr HI.out.1 (Nat.le_refl _) (by omega) HZ.out).mono ?_
        rintro e w2 ⟨g, cap, he, hg, h1, h2, hO2, hb2⟩
        rw [show (octs (z0.take k) ++ octN m).length = n + L from by rw [List.length_append, HI.out.1.1, HL.out]] at he h1 hO2
        subst he
        have HO2 := Lib.hid hO2
        clear hO2
        have hcw2 : w2.cell? ⟨b, o + k, none⟩ = some (.int .i64 m) := (hb2.cell (p := ⟨b, o + k, none⟩) (by show b < wr.heap.size; omega)).trans hcw
        have hbw2 : Below w.heap.size w w2 := hbw.trans (hb2.mono kw)
        clear hcw
        go_wp2_with fail
        refine (size_len m L _ HL.out).mono ?_
        rintro e w' ⟨rfl, rfl⟩
        go_wp2
        refine ⟨⟨k + 1, _, n + L, cap, by omega, by omega, by go_num, rfl, h1, h2, by go_num, ?_⟩, by simp [intOf]; omega⟩
        refine ⟨?_, ?_, hbw2⟩
        · rw [HT.out, octs_snoc]; exact HO2.out
        · rw [HT.out]
          intro x hx
          rcases List.mem_append.1 hx with h | h
          · exact HI.out.2.1 x h
          · rw [List.mem_singleton.1 h]; exact HZ.out
    · have hex : k = len0 ∨ k = 50 := by omega
      have hnn : ((n : Int) != (n : Int)) = false := by simp
      have HD : Hid (∀ j (hz : j < z0.length), j < k → octs ((z0.take k).drop j) = octN z0[j] ++ octs ((z0.take k).drop (j + 1)) ∧ sizeN z0[j] ≠ 0) := fun j hz hj => two_step z0 k j HI.out.2.1 hj hz
      have HN : Hid (octs ((z0.take k).drop k) = []) := by
        show octs ((z0.take k).drop k) = []
        rw [List.drop_of_length_le (by rw [List.length_take]; omega)]; rfl
      have HO1 := Lib.hid HI.out.1
      generalize z0.take k = l at *
      have hk50 : k < len0 → ¬ k < 50 := by omega
      by_cases hkl : k < len0
      all_goals
        first | (have hk50' := hk50 hkl) | skip
        clear hk50
        go_wp2_with fail
        go_loopw [4, 7] (fun b i W => ∃ j A n c, j ≤ k ∧ i = .int .i64 (j : Nat) ∧ b = .slice A n c ∧ n ≤ c ∧ c ≤ maxLen ∧ Inv2 w l j n A W) (fun _ i _ => 50 - (intOf i).toNat)
        case atStart => exact ⟨0, A, n, c, Nat.zero_le _, rfl, rfl, hnc, hcm, by simpa using HO1.out, hbw⟩
        case round =>
          obtain ⟨j, A3, n3, c3, hj, rfl, rfl, hnc3, hcm3, hinv3⟩ := hrel
          have HI3 := Lib.hid hinv3
          have hbw3 := HI3.out.2
          have kw3 := hbw3.size
          clear hinv3
          by_cases hjk : j < k
          · have hjl : j < len0 := by omega
            have hj50 : j < 50 := by omega
            obtain ⟨b, o, rfl, hB, hc⟩ := HC.out (by omega)
            have hjz : j < z0.length := by omega
            have hcell := hc j hjz
            have HDj := Lib.hid (HD.out j hjz hjk)
            generalize z0[j] = m at *
            have hcw := (hbw3.cell (p := ⟨b, o + j, none⟩) hB).trans hcell
            have hmm : (m != m) = false := by simp
            clear hcell hc
            have hO3 := HI3.out.1
            rw [HDj.out.1] at hO3
            have gp := got_put m (octs (l.drop (j + 1))) HDj.out.2
            have HG := Lib.hid (get_some A3 n3 c3 _ _ _ hO3 hnc3 hcm3 gp.1)
            rw [gp.2.1, gp.2.2, List.drop_left] at HG
            have hle : (octN m).length ≤ n3 := by have := hO3.1; rw [List.length_append] at this; omega
            clear gp hO3
            generalize (octN m).length = L at *
            go_wp2_with fail
            refine HG.out.mono ?_
            rintro e w4 ⟨A4, rfl, hO4, hb4⟩
            have HO4 := Lib.hid hO4
            clear hO4
            have hcw4 : w4.cell? ⟨b, o + j, none⟩ = some (.int .i64 m) := (hb4.cell (p := ⟨b, o + j, none⟩) (by show b < wr.heap.size; omega)).trans hcw
            clear hcw
            go_wp2_with fail
            refine ⟨⟨j + 1, A4, n3 - L, c3 - L, by omega, by go_num, rfl, by omega, by omega, ?_, ?_⟩, by simp [intOf]; omega⟩
            · exact HO4.out.more hb4.size
            · exact hbw3.trans (hb4.mono kw3)
          · obtain rfl : j = k := by omega
            have hn0 : n3 = 0 := by
              have := HI3.out.1.1
              rw [HN.out] at this
              simpa using this.symm
            subst hn0
            go_wp2_with fail
            go_ret
            exact ⟨rfl, hbw3⟩

set_option maxRecDepth 100000 in
theorem lifted (os : Os) (started : os.Started) (H : Type) (enc : TypeId × Value → H) :
    ReturnsInHanded {} Try.checked os 7 .any (Rows.varintTwoSpec.pre6 enc Try.prog Try.f7 Rows.varintTwoRow.domain false) (Rows.varintTwoSpec.post enc Try.prog Try.f7 false true false false) := by
  refine returnsInHanded_of_change (C := Try.checked) own started (by kernel_rfl) Try.func7
    (ChangeSpec.witness6 (enc := enc) (C := Try.checked) false ⟨#[], #[.slice none 0 0], []⟩ 8 (by kernel_rfl) (by kernel_rfl) (by kernel_rfl) (by kernel_rfl)) ?_
  intro W base args ds gs before hval0 hW hcnd _
  have hval : ∀ (j : Nat) t v, Try.f7.params[j]? = some t → args[j]? = some v → Value.okWide Try.prog W .any base t v := hval0
  have hW' := hW
  obtain ⟨p, q, hA0, hV, rfl, hfz, hnd⟩ := hW
  have hA : DataW.TrodAll enc Try.prog W 0 (fun _ => true) true Try.f7.params.toList args.toList ds p := hA0
  rw [Try.params7] at hA hval
  obtain ⟨v0, vs0, d0, ds0, p0, q0, hargs, rfl, rfl, h0, r0⟩ := trodAll_cons hA
  obtain ⟨rfl, rfl, rfl⟩ := trodAll_nil r0
  obtain rfl : args = #[v0] := by cases args; simp_all
  obtain ⟨rfl, rfl⟩ := trodVars_none hV
  obtain ⟨a0, len0, cap0, rfl⟩ := okWide_slice Try.underlying33 (hval 0 33 v0 rfl rfl)
  have k0 := h0
  have lt0 : ∀ x ∈ p0, x.block < W.heap.size := by obtain ⟨m, hm⟩ := k0; exact DataW.trod_lt m _ _ _ hm
  obtain ⟨z0, w0⟩ : ∃ zs, IsRow .i64 W a0 len0 cap0 zs := by
    obtain ⟨fuel, hf⟩ := h0
    rcases open_ints Try.underlying33 Try.underlying3 (by kernel_rfl) hf with ⟨hcs, _⟩ | ⟨x, l, c, zs, hcs, _, hl, hm, hz, _, hcell, hwz⟩
    · simp [Value.cells] at hcs
      obtain ⟨rfl, rfl, rfl⟩ := hcs
      exact ⟨[], .inl ⟨rfl, rfl, rfl, rfl⟩⟩
    · simp [Value.cells] at hcs
      obtain ⟨rfl, rfl, rfl⟩ := hcs
      exact ⟨zs, .inr ⟨_, rfl, hl, hm, by simpa using hz, hcell, hwz⟩⟩
  clear hA0 hval0
  refine (walk a0 len0 cap0 z0 W w0).mono fun e W' ⟨he, bel⟩ => ?_
  subst he
  exact ⟨_, rfl, _, _, _, [], _, [], hW', trodAll_mk1 (shut_bool Try.underlying4 _), (trodAll_cons_mk (Below.trod laidOut (by kernel_rfl) (of_decide_eq_true (by kernel_rfl)) k0 bel lt0) trodAll_mk0), rfl, bel.frame _, fun h => by cases h⟩

theorem over : Rows.varintTwoRow.holds Try.pinned (OpenSpec.ofChange Rows.varintTwoSpec) :=
  OpenClaim.holds_of_wide 7 Try.f7 rfl rfl rfl rfl rfl rfl rfl ⟨rfl, rfl, rfl, rfl, rfl⟩ rfl rfl rfl rfl rfl (by kernel_rfl) Try.func7 (by kernel_rfl)
    (of_decide_eq_true (by kernel_rfl)) (by unfold Func.isWrapper; first | (rw [if_pos (by decide +kernel)]; kernel_rfl) | (rw [if_neg (by decide +kernel)]; exact ⟨rfl, rfl⟩))
    (fun os started H enc _ => lifted os started H enc)

end varintTwo

theorem varintTwo_holds : Rows.VarintTwoSaid := varintTwo.over
end Go.Proofs.Ytkfbhiidahklnaa
