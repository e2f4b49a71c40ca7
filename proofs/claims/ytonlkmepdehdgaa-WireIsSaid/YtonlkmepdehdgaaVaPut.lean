/-
  The contract of varint.Put, for every slice of octets and every number.
-/
import Derived.Test.YtonlkmepdehdgaaVaGot
import Derived.Laws.CopyOwn
import Derived.OwnWalk
import Derived.Laws.MakeOwn
namespace Go.Proofs.Ytonlkmepdehdgaa
open Go.ChangeShapes Go.WideShapes Go.ChangeAt Go.RowKit
set_option linter.unusedVariables false

theorem put_none (v : Value) (m : Int) (w : World) (hm : sizeN m = 0) : Calls Try.prog 36 #[v, .int .i64 m] w fun e w' => e = .returned v ∧ w = w' := by
  go_enter Try.func36, Try.ntmps36
  go_wp2_with (go_at_call 39; refine (size_any _ _).mono ?_; rintro e w' ⟨rfl, rfl⟩)
  go_ret
  exact ⟨rfl, rfl⟩

theorem info5 : (Try.prog.info? 5).map (fun i => (i.zero, i.size, i.bytes)) = some (some (.int .u8 0), 1, 1) := by kernel_rfl

/-- A row of the call's own that begins with the octets xs. -/
def Own (w : World) (base : Nat) (v : Value) (xs : List Int) : Prop := w.ownsRow base 5 1 v xs.length (xs.map (Value.int .u8))

/-- The octets of a number. -/
def octN (m : Int) : List Int :=
  if sizeN m = 4 then [128 + m / 16777216, m / 65536 % 256, m / 256 % 256, m % 256] else if sizeN m = 2 then [64 + m / 256, m % 256] else if sizeN m = 1 then [m] else []

/-- What Put answers of a number that has octets: a new row that reads as ys; nothing that was there has changed. -/
def PutWell (w : World) (ys : List Int) (e : Ending) (w' : World) : Prop :=
  ∃ g cap, e = .returned (.slice (some ⟨g, 0, none⟩) ys.length cap) ∧ w.heap.size ≤ g ∧ ys.length ≤ cap ∧ cap ≤ maxLen ∧ Oct w' w'.heap.size (some ⟨g, 0, none⟩) ys.length ys ∧ Below w.heap.size w w'

/-- So many zero octets, as cells. -/
def zeros (n : Nat) : List Value := List.replicate n (.int .u8 0)

theorem made_own (w : World) (g n k : Nat) (xs : List Int) (hl : xs.length = n) (hb : n + k ≤ maxLen)
    (h : w.heap[g]? = some (.cells (splice (zeros (n + k)) 0 (xs.map (Value.int .u8))).toArray 5 (0, 0))) (base : Nat) (hg : base ≤ g) :
    w.ownsRow base 5 1 (.slice (some ⟨g, 0, none⟩) n (n + k)) n (xs.map (Value.int .u8)) := by
  unfold zeros at h
  refine ⟨by simp [hl], .inr ⟨g, n + k, _, rfl, hg, h, by omega, hb, ?_, ?_⟩⟩
  · rw [List.size_toArray, length_splice _ _ _ (by simp; omega)]; simp
  · simp [splice, ← hl]

theorem make_row (n k : Nat) (K : Int) (hK : K = k) (hb : n + k ≤ 140737488355328) (w : World) :
    (Instr.makeSlice 22 (.int .i64 (n : Int)) (.int .i64 ((n : Int) + K))).run Try.prog w = .ok (.slice (some ⟨w.heap.size, 0, none⟩) n (n + k)) (w.alloc (.cells (zeros (n + k)).toArray 5)) := by
  subst hK
  obtain ⟨i, hi, hz, hs, hby⟩ := info_parts info5
  have hr := run_make (P := Try.prog) w 22 5 i _ Try.underlying22 hi hz .i64 .i64 (n : Int) ((n : Int) + (k : Int)) (by omega) (by omega) (by rw [hby]; omega) (by omega)
  rw [hr]
  have e1 : ((n : Int) + (k : Int)).toNat = n + k := by omega
  have e2 : (madeCells (Value.int .u8 0).cells ((n + k) * i.size)) = (zeros (n + k)).toArray := by
    have := toList_madeCells_one (Value.int .u8 0) (n + k)
    rw [hs, Nat.mul_one]
    exact Array.toList_inj.1 (by rw [List.toList_toArray]; exact this)
  rw [e1, Int.toNat_natCast, e2]

theorem Oct.src {w w' : World} {B n : Nat} {A : Option Addr} {xs : List Int} (h : Oct w B A n xs) (hk : ∀ p : Addr, p.block < B → w'.cell? p = w.cell? p) (hn : 0 < n) :
    ∃ ad, A = some ad ∧ ∀ j v, (xs.map (Value.int .u8))[j]? = some v → w'.cell? (ad.add j) = some v := by
  obtain ⟨b, o, rfl, hB, hc⟩ := h.2.2 hn
  refine ⟨_, rfl, fun j v hv => ?_⟩
  rw [List.getElem?_map, Option.map_eq_some_iff] at hv
  obtain ⟨x, hx, rfl⟩ := hv
  rw [Addr.add_lit, hk _ hB]
  exact hc j x hx

theorem copy_row (A : Option Addr) (n c B k : Nat) (xs : List Int) (w : World) (hO : Oct w B A n xs) (hB : B ≤ w.heap.size) (hb : n + k ≤ maxLen) :
    ∃ W1, (Builtin.copy_ #[22, 22] 3 #[.slice (some ⟨w.heap.size, 0, none⟩) n (n + k), .slice A n c]).run Try.prog (w.alloc (.cells (zeros (n + k)).toArray 5)) = .ok (.int .i64 n) W1 ∧
      W1.ownsRow w.heap.size 5 1 (.slice (some ⟨w.heap.size, 0, none⟩) n (n + k)) n (xs.map (Value.int .u8)) ∧ Below w.heap.size w W1 ∧ w.heap.size < W1.heap.size := by
  have hbel : Below w.heap.size w (w.alloc (.cells (zeros (n + k)).toArray 5)) := (Below.refl _ _).alloc (Nat.le_refl _) _
  have hsz : (Try.prog.info? 5).map (·.size) = some 1 := by kernel_rfl
  have hnew := heap_alloc_new w (.cells (zeros (n + k)).toArray 5)
  by_cases hn : n = 0
  · subst hn
    have hxs : xs = [] := List.eq_nil_of_length_eq_zero hO.1
    subst hxs
    refine ⟨_, run_copy_none (P := Try.prog) _ 22 22 3 5 _ _ 0 _ 0 _ Try.underlying22 hsz (by simp), ?_, hbel, by simp⟩
    exact made_own _ _ 0 k [] rfl hb (by simpa [splice] using hnew) _ (Nat.le_refl _)
  · obtain ⟨ad, rfl, hsrc⟩ := hO.src (w' := w.alloc (.cells (zeros (n + k)).toArray 5)) (fun p hp => World.cell?_alloc_lt w _ p (by omega)) (by omega)
    have hlz : (zeros (n + k)).length = n + k := by simp [zeros]
    have hrun := run_copy_row (P := Try.prog) _ 22 22 3 5 w.heap.size 0 n (n + k) ad n c (zeros (n + k)).toArray 5 (xs.map (Value.int .u8)) Try.underlying22 hsz hnew (by simp [hO.1]) hsrc (by simp [hlz, hO.1]) (ints_oneCell _ _)
    rw [hrun]
    refine ⟨_, by rw [List.length_map, hO.1]; rfl, ?_, below_setRow hbel (Nat.le_refl _) _, by simp [World.setRow]⟩
    exact made_own _ _ n k xs hO.1 hb (by
      have h := setRow_heap (w.alloc (.cells (zeros (n + k)).toArray 5)) w.heap.size _ ((zeros (n + k)).toArray.toList.take 0 ++ xs.map (Value.int .u8) ++ (zeros (n + k)).toArray.toList.drop (0 + (xs.map (Value.int .u8)).length)).toArray 5 _ hnew
      rw [List.length_map, hO.1] at h
      rw [h]
      simp [splice, hO.1]) _ (Nat.le_refl _)

theorem new_cells (w : World) (l : List Value) : ∀ j u, l[j]? = some u → (w.alloc (.cells l.toArray 5)).cell? ((⟨w.heap.size, 0, none⟩ : Addr).add j) = some u := by
  intro j u hu
  rw [Addr.add_lit, Nat.zero_add, cell_of_row _ _ j l.toArray 5 (0, 0) (heap_alloc_new w _)]
  simpa using hu

theorem well_of {w0 w : World} {g k cap : Nat} {l : List Value} {ys : List Int} (h : w.ownsRow w0.heap.size 5 1 (.slice (some ⟨g, 0, none⟩) k cap) k l) (hk : ys.length = k) (hl : l = ys.map (Value.int .u8)) (hy : ∀ y ∈ ys, 0 ≤ y ∧ y ≤ 255)
    (hb : Below w0.heap.size w0 w) : PutWell w0 ys (.returned (.slice (some ⟨g, 0, none⟩) k cap)) w := by
  subst hl hk
  obtain ⟨hg0, hg1⟩ := h.lt g rfl
  have hc := h.cells (g := g) rfl
  refine ⟨g, cap, rfl, hg0, ?_, ?_, ⟨rfl, hy, fun _ => ⟨g, 0, rfl, hg1, fun i x hx => ?_⟩⟩, hb⟩
  · rcases h.2 with ⟨hv, _⟩ | ⟨g', cap', cur, hv, _, _, h1, _⟩
    · simp at hv
    · simp at hv; omega
  · rcases h.2 with ⟨hv, _⟩ | ⟨g', cap', cur, hv, _, _, _, h2, _⟩
    · simp at hv
    · simp at hv; omega
  · have := hc i (.int .u8 x) (by rw [List.getElem?_map, hx]; rfl)
    rwa [Addr.add_lit] at this

theorem below_app {w a b : World} {B : Nat} (h : Below B w a) (hB : B ≤ a.heap.size) {g : Nat} (hg : B ≤ g) {o : Obj} (hb : (a.alloc o).grownBy b (some g)) : Below B w b ∧ B ≤ b.heap.size := by
  have h1 : Below B w (a.alloc o) := h.alloc hB o
  have h2 : B ≤ (a.alloc o).heap.size := by simp; omega
  exact ⟨h1.grown hb h2 (fun k hk => by injection hk with hk; omega), Nat.le_trans h2 hb.size⟩

theorem put4 (A : Option Addr) (n c B : Nat) (xs : List Int) (m : Int) (w : World) (hO : Oct w B A n xs) (hB : B ≤ w.heap.size) (hn : n ≤ 70368744177664) (h0 : 16383 < m) (h1 : m ≤ 1073741823) :
    Calls Try.prog 36 #[.slice A n c, .int .i64 m] w (PutWell w (xs ++ octN m)) := by
  obtain ⟨i0, hi0, hz0, hz1, hz2⟩ := info_parts info5
  have hs : sizeN m = 4 := sizeN_4 h0 h1
  have hmk := make_row n 4 4 rfl (by omega)
  obtain ⟨W1, hcp, how, hbw, hsz1⟩ := copy_row A n c B 4 xs w hO hB (by unfold maxLen; omega)
  have HO := Lib.hid hO
  have HOW := Lib.hid how
  have HN : Hid (octN m = [128 + m / 16777216, m / 65536 % 256, m / 256 % 256, m % 256]) := by show octN m = _; unfold octN; rw [hs]; rfl
  have HM : Hid (markN 4 = 2147483648) := by show markN 4 = _; rfl
  clear hO how
  go_enter Try.func36, Try.ntmps36
  go_wp2_with (first
    | (go_at_call 39; refine (size_any _ _).mono ?_; rintro e w' ⟨rfl, rfl⟩)
    | (go_at_call 42; refine (marked_any _ _ _ (by omega) (by omega)).mono ?_; rintro e w' ⟨rfl, rfl⟩)
    | (at_builtin
       refine wpList_append_fits _ rfl (.tmp 33) (.tmp 40) 22 rfl w.heap.size 5 i0 1 Try.underlying22 hi0 hz1 w.heap.size (n) (n + 4) (xs.map (Value.int .u8)) rfl (HOW.out.alloc _) ⟨W1.heap.size, 0, none⟩ 2 2 [Value.int .u8 ((m + markN 4) / 16777216 % 256), Value.int .u8 ((m + markN 4) / 65536 % 256)] rfl rfl (new_cells W1 _) (by simp [Value.oneCell']) (by omega) ?_
       intro W2 how2 hg2
       have H2 := Lib.hid how2
       clear how2)
    | (at_builtin
       refine wpList_append_fits _ rfl (.tmp 42) (.tmp 46) 22 rfl w.heap.size 5 i0 1 Try.underlying22 hi0 hz1 w.heap.size (n + 2) (n + 4) (xs.map (Value.int .u8) ++ [Value.int .u8 ((m + markN 4) / 16777216 % 256), Value.int .u8 ((m + markN 4) / 65536 % 256)]) rfl (H2.out.alloc _) ⟨W2.heap.size, 0, none⟩ 1 1 [Value.int .u8 ((m + markN 4) / 256 % 256)] rfl rfl (new_cells W2 _) (by simp [Value.oneCell']) (by omega) ?_
       intro W3 how3 hg3
       have H3 := Lib.hid how3
       clear how3)
    | (at_builtin
       refine wpList_append_fits _ rfl (.tmp 48) (.tmp 51) 22 rfl w.heap.size 5 i0 1 Try.underlying22 hi0 hz1 w.heap.size (n + 2 + 1) (n + 4) (xs.map (Value.int .u8) ++ [Value.int .u8 ((m + markN 4) / 16777216 % 256), Value.int .u8 ((m + markN 4) / 65536 % 256)] ++ [Value.int .u8 ((m + markN 4) / 256 % 256)]) rfl (H3.out.alloc _) ⟨W3.heap.size, 0, none⟩ 1 1 [Value.int .u8 ((m + markN 4) % 256)] rfl rfl (new_cells W3 _) (by simp [Value.oneCell']) (by omega) ?_
       intro W4 how4 hg4
       have H4 := Lib.hid how4
       clear how4))
  go_ret
  have b2 := below_app hbw (by omega) (Nat.le_refl _) hg2
  have b3 := below_app b2.1 b2.2 (Nat.le_refl _) hg3
  have b4 := below_app b3.1 b3.2 (Nat.le_refl _) hg4
  refine well_of H4.out ?_ ?_ ?_ b4.1
  · rw [HN.out, List.length_append, HO.out.1]; rfl
  · rw [HN.out, HM.out, List.map_append]
    simp only [List.append_assoc, List.cons_append, List.nil_append, List.map_cons, List.map_nil]
    rw [show (m + 2147483648) / 16777216 % 256 = 128 + m / 16777216 from by omega, show (m + 2147483648) / 65536 % 256 = m / 65536 % 256 from by omega, show (m + 2147483648) / 256 % 256 = m / 256 % 256 from by omega, show (m + 2147483648) % 256 = m % 256 from by omega]
  · rw [HN.out]
    intro y hy
    rw [List.mem_append] at hy
    rcases hy with hy | hy
    · exact HO.out.2.1 y hy
    · simp only [List.mem_cons, List.not_mem_nil, or_false] at hy
      omega

theorem put2 (A : Option Addr) (n c B : Nat) (xs : List Int) (m : Int) (w : World) (hO : Oct w B A n xs) (hB : B ≤ w.heap.size) (hn : n ≤ 70368744177664) (h0 : 63 < m) (h1 : m ≤ 16383) :
    Calls Try.prog 36 #[.slice A n c, .int .i64 m] w (PutWell w (xs ++ octN m)) := by
  obtain ⟨i0, hi0, hz0, hz1, hz2⟩ := info_parts info5
  have hs : sizeN m = 2 := sizeN_2 h0 h1
  have hmk := make_row n 2 2 rfl (by omega)
  obtain ⟨W1, hcp, how, hbw, hsz1⟩ := copy_row A n c B 2 xs w hO hB (by unfold maxLen; omega)
  have HO := Lib.hid hO
  have HOW := Lib.hid how
  have HN : Hid (octN m = [64 + m / 256, m % 256]) := by show octN m = _; unfold octN; rw [hs]; rfl
  have HM : Hid (markN 2 = 16384) := by show markN 2 = _; rfl
  clear hO how
  go_enter Try.func36, Try.ntmps36
  go_wp2_with (first
    | (go_at_call 39; refine (size_any _ _).mono ?_; rintro e w' ⟨rfl, rfl⟩)
    | (go_at_call 42; refine (marked_any _ _ _ (by omega) (by omega)).mono ?_; rintro e w' ⟨rfl, rfl⟩)
    | (at_builtin
       refine wpList_append_fits _ rfl (.tmp 42) (.tmp 46) 22 rfl w.heap.size 5 i0 1 Try.underlying22 hi0 hz1 w.heap.size (n) (n + 2) (xs.map (Value.int .u8)) rfl (HOW.out.alloc _) ⟨W1.heap.size, 0, none⟩ 1 1 [Value.int .u8 ((m + markN 2) / 256 % 256)] rfl rfl (new_cells W1 _) (by simp [Value.oneCell']) (by omega) ?_
       intro W2 how2 hg2
       have H2 := Lib.hid how2
       clear how2)
    | (at_builtin
       refine wpList_append_fits _ rfl (.tmp 48) (.tmp 51) 22 rfl w.heap.size 5 i0 1 Try.underlying22 hi0 hz1 w.heap.size (n + 1) (n + 2) (xs.map (Value.int .u8) ++ [Value.int .u8 ((m + markN 2) / 256 % 256)]) rfl (H2.out.alloc _) ⟨W2.heap.size, 0, none⟩ 1 1 [Value.int .u8 ((m + markN 2) % 256)] rfl rfl (new_cells W2 _) (by simp [Value.oneCell']) (by omega) ?_
       intro W3 how3 hg3
       have H3 := Lib.hid how3
       clear how3))
  go_ret
  have b2 := below_app hbw (by omega) (Nat.le_refl _) hg2
  have b3 := below_app b2.1 b2.2 (Nat.le_refl _) hg3
  refine well_of H3.out ?_ ?_ ?_ b3.1
  · rw [HN.out, List.length_append, HO.out.1]; rfl
  · rw [HN.out, HM.out, List.map_append]
    simp only [List.append_assoc, List.cons_append, List.nil_append, List.map_cons, List.map_nil]
    rw [show (m + 16384) / 256 % 256 = 64 + m / 256 from by omega, show (m + 16384) % 256 = m % 256 from by omega]
  · rw [HN.out]
    intro y hy
    rw [List.mem_append] at hy
    rcases hy with hy | hy
    · exact HO.out.2.1 y hy
    · simp only [List.mem_cons, List.not_mem_nil, or_false] at hy
      omega

theorem put1 (A : Option Addr) (n c B : Nat) (xs : List Int) (m : Int) (w : World) (hO : Oct w B A n xs) (hB : B ≤ w.heap.size) (hn : n ≤ 70368744177664) (h0 : 0 ≤ m) (h1 : m ≤ 63) :
    Calls Try.prog 36 #[.slice A n c, .int .i64 m] w (PutWell w (xs ++ octN m)) := by
  obtain ⟨i0, hi0, hz0, hz1, hz2⟩ := info_parts info5
  have hs : sizeN m = 1 := sizeN_1 h0 h1
  have hmk := make_row n 1 1 rfl (by omega)
  obtain ⟨W1, hcp, how, hbw, hsz1⟩ := copy_row A n c B 1 xs w hO hB (by unfold maxLen; omega)
  have HO := Lib.hid hO
  have HOW := Lib.hid how
  have HN : Hid (octN m = [m]) := by show octN m = _; unfold octN; rw [hs]; rfl
  have HM : Hid (markN 1 = 0) := by show markN 1 = _; rfl
  clear hO how
  go_enter Try.func36, Try.ntmps36
  go_wp2_with (first
    | (go_at_call 39; refine (size_any _ _).mono ?_; rintro e w' ⟨rfl, rfl⟩)
    | (go_at_call 42; refine (marked_any _ _ _ (by omega) (by omega)).mono ?_; rintro e w' ⟨rfl, rfl⟩)
    | (at_builtin
       refine wpList_append_fits _ rfl (.tmp 48) (.tmp 51) 22 rfl w.heap.size 5 i0 1 Try.underlying22 hi0 hz1 w.heap.size (n) (n + 1) (xs.map (Value.int .u8)) rfl (HOW.out.alloc _) ⟨W1.heap.size, 0, none⟩ 1 1 [Value.int .u8 ((m + markN 1) % 256)] rfl rfl (new_cells W1 _) (by simp [Value.oneCell']) (by omega) ?_
       intro W2 how2 hg2
       have H2 := Lib.hid how2
       clear how2))
  go_ret
  have b2 := below_app hbw (by omega) (Nat.le_refl _) hg2
  refine well_of H2.out ?_ ?_ ?_ b2.1
  · rw [HN.out, List.length_append, HO.out.1]; rfl
  · rw [HN.out, HM.out, List.map_append]
    simp only [List.map_cons, List.map_nil]
    rw [show (m + 0) % 256 = m from by omega]
  · rw [HN.out]
    intro y hy
    rw [List.mem_append] at hy
    rcases hy with hy | hy
    · exact HO.out.2.1 y hy
    · simp only [List.mem_cons, List.not_mem_nil, or_false] at hy
      omega

theorem sizeN_cases (m : Int) : sizeN m = 0 ∧ (m < 0 ∨ 1073741823 < m) ∨ sizeN m = 1 ∧ 0 ≤ m ∧ m ≤ 63 ∨ sizeN m = 2 ∧ 63 < m ∧ m ≤ 16383 ∨ sizeN m = 4 ∧ 16383 < m ∧ m ≤ 1073741823 := by
  by_cases h : m < 0 ∨ 1073741823 < m
  · exact .inl ⟨sizeN_0 h, h⟩
  · by_cases h1 : m ≤ 63
    · exact .inr (.inl ⟨sizeN_1 (by omega) h1, by omega, h1⟩)
    · by_cases h2 : m ≤ 16383
      · exact .inr (.inr (.inl ⟨sizeN_2 (by omega) h2, by omega, h2⟩))
      · exact .inr (.inr (.inr ⟨sizeN_4 (by omega) (by omega), by omega, by omega⟩))

theorem put_some (A : Option Addr) (n c B : Nat) (xs : List Int) (m : Int) (w : World) (hO : Oct w B A n xs) (hB : B ≤ w.heap.size) (hn : n ≤ 70368744177664) (hm : sizeN m ≠ 0) :
    Calls Try.prog 36 #[.slice A n c, .int .i64 m] w (PutWell w (xs ++ octN m)) := by
  rcases sizeN_cases m with h | h | h | h
  · exact absurd h.1 hm
  · exact put1 A n c B xs m w hO hB hn h.2.1 h.2.2
  · exact put2 A n c B xs m w hO hB hn h.2.1 h.2.2
  · exact put4 A n c B xs m w hO hB hn h.2.1 h.2.2

theorem octN_length (m : Int) : ((octN m).length : Int) = sizeN m := by
  unfold octN
  rcases sizeN_cases m with h | h | h | h <;> rw [h.1] <;> rfl
end Go.Proofs.Ytonlkmepdehdgaa
