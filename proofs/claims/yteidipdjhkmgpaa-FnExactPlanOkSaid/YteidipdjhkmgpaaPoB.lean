/- Tables: lists of elements, structs of four whole numbers: read, copied, compared. -/
import Derived.Test.YteidipdjhkmgpaaPoA
namespace Go.Proofs.Yteidipdjhkmgpaa.Lists
open Go.ChangeShapes Go.WideShapes Go.ChangeAt Go.RowKit

abbrev El := List (Int × Int × Int × Int)
def cO (T : El) (i : Nat) : Int := (T.getD i (0, 0, 0, 0)).1
def wO (T : El) (i : Nat) : Int := (T.getD i (0, 0, 0, 0)).2.1
def sO (T : El) (i : Nat) : Int := (T.getD i (0, 0, 0, 0)).2.2.1
def rO (T : El) (i : Nat) : Int := (T.getD i (0, 0, 0, 0)).2.2.2
abbrev el (c w s r : Int) : Value := .agg #[.int .i64 c, .int .i64 w, .int .i64 s, .int .i64 r]
def C4 (w : World) (b o : Nat) (T : El) (i : Nat) : Prop := w.cell? ⟨b, o + i * 4, none⟩ = some (.int .i64 (cO T i)) ∧ w.cell? ⟨b, o + i * 4 + 1, none⟩ = some (.int .i64 (wO T i)) ∧ w.cell? ⟨b, o + i * 4 + 2, none⟩ = some (.int .i64 (sO T i)) ∧ w.cell? ⟨b, o + i * 4 + 3, none⟩ = some (.int .i64 (rO T i))
def ReadsE (w : World) (v : Value) (T : El) : Prop :=
  (T = [] ∧ ∃ a cap, v = .slice a 0 cap) ∨ ∃ b o cap, v = .slice (some ⟨b, o, none⟩) T.length cap ∧ T.length ≤ cap ∧ cap ≤ maxLen ∧ b < w.heap.size ∧ ∀ i, i < T.length → C4 w b o T i
theorem C4.on {w w' : World} {b o : Nat} {T : El} {i B : Nat} (h : C4 w b o T i) (hb : Below B w w') (hB : b < B) : C4 w' b o T i := by
  unfold C4 at h ⊢
  refine ⟨?_, ?_, ?_, ?_⟩
  · rw [hb.cell hB]; exact h.1
  · rw [hb.cell hB]; exact h.2.1
  · rw [hb.cell hB]; exact h.2.2.1
  · rw [hb.cell hB]; exact h.2.2.2
theorem ReadsE.on {w w' : World} {v : Value} {T : El} (h : ReadsE w v T) (hb : Below w.heap.size w w') : ReadsE w' v T := by
  rcases h with h | ⟨b, o, cap, h1, h2, h3, h4, h5⟩
  · exact Or.inl h
  · exact Or.inr ⟨b, o, cap, h1, h2, h3, Nat.lt_of_lt_of_le h4 hb.size, fun i hi => (h5 i hi).on hb h4⟩
theorem ReadsE.form {w : World} {v : Value} {T : El} (h : ReadsE w v T) : ∃ a cap, v = .slice a T.length cap := by
  rcases h with ⟨rfl, a, cap, rfl⟩ | ⟨b, o, cap, rfl, _⟩
  · exact ⟨_, _, rfl⟩
  · exact ⟨_, _, rfl⟩
theorem ReadsE.at {w : World} {a : Option Addr} {n cap : Nat} {T : El} (h : ReadsE w (.slice a n cap) T) (i : Nat) (hi : i < T.length) : ∃ b o, a = some ⟨b, o, none⟩ ∧ T.length ≤ cap ∧ cap ≤ maxLen ∧ b < w.heap.size ∧ C4 w b o T i := by
  rcases h with ⟨rfl, _⟩ | ⟨b, o, cap', h1, h2, h3, h4, h5⟩
  · simp at hi
  · injection h1 with q1 q2 q3
    subst q3
    exact ⟨b, o, q1, h2, h3, h4, h5 i hi⟩

set_option maxHeartbeats 1000000 in
theorem toElem_any (c x s r : Int) (w : World) : Calls Try.prog 13 #[el c x s r] w fun e w' => e = .returned (el c x s r) ∧ Below w.heap.size w w' := by
  go_enter Try.func13, Try.ntmps13
  go_wp2
  refine bodyPost_ret (v := el c x s r) (by simp [results, Try.results13, go_sem]) rfl ⟨rfl, ?_⟩
  exact (((Below.refl _ _).alloc (Nat.le_refl _) _).alloc (by simp) _).alloc (by simp; omega) _
set_option maxHeartbeats 1000000 in
theorem eqElem_any (c x s r : Int) (w : World) : Calls Try.prog 17 #[el c x s r, el c x s r] w fun e w' => e = .returned (.bool true) ∧ Below w.heap.size w w' := by
  have n0 : (c != c) = false := by simp
  have n1 : (x != x) = false := by simp
  have n2 : (s != s) = false := by simp
  have n3 : (r != r) = false := by simp
  go_enter Try.func17, Try.ntmps17
  go_wp2
  go_ret
  exact ⟨rfl, ((Below.refl _ _).alloc (Nat.le_refl _) _).alloc (by simp) _⟩

theorem row_below {B : Nat} {e : TypeId} {k : Nat} {v : Value} {n : Nat} {xs : List Value} {w w' : World} (h : w.ownsRow B e k v n xs) (hb : Below w.heap.size w w') : w'.ownsRow B e k v n xs := by
  refine ⟨h.1, ?_⟩
  rcases h.2 with h2 | ⟨g, cap, cur, h1, h2, h3, h4⟩
  · exact .inl h2
  · have hg : g < w.heap.size := by
      rcases Nat.lt_or_ge g w.heap.size with x | x
      · exact x
      · rw [Array.getElem?_eq_none x] at h3; cases h3
    exact .inr ⟨g, cap, cur, h1, h2, (hb.block g hg).trans h3, h4⟩
theorem Try.info34 : (Try.prog.info? 34).map (fun i => (i.zero, i.size, i.bytes)) = some (some (el 0 0 0 0), 4, 32) := by kernel_rfl
/-- The first j elements stand in the row. -/
def Good (xs : List Value) (T : El) (j : Nat) : Prop := ∀ i, i < j → xs[i * 4]? = some (.int .i64 (cO T i)) ∧ xs[i * 4 + 1]? = some (.int .i64 (wO T i)) ∧ xs[i * 4 + 2]? = some (.int .i64 (sO T i)) ∧ xs[i * 4 + 3]? = some (.int .i64 (rO T i))
theorem Good.next {xs : List Value} {T : El} {j : Nat} (h : Good xs T j) (hl : j * 4 + 3 < xs.length) : Good ((((xs.set (j * 4) (.int .i64 (cO T j))).set (j * 4 + 1) (.int .i64 (wO T j))).set (j * 4 + 2) (.int .i64 (sO T j))).set (j * 4 + 3) (.int .i64 (rO T j))) T (j + 1) := by
  intro i hi
  by_cases e : i = j
  · subst e
    refine ⟨?_, ?_, ?_, ?_⟩
    · rw [List.getElem?_set_ne (by omega), List.getElem?_set_ne (by omega), List.getElem?_set_ne (by omega), List.getElem?_set_self (by omega)]
    · rw [List.getElem?_set_ne (by omega), List.getElem?_set_ne (by omega), List.getElem?_set_self (by simp; omega)]
    · rw [List.getElem?_set_ne (by omega), List.getElem?_set_self (by simp; omega)]
    · rw [List.getElem?_set_self (by simp; omega)]
  · have h := h i (by omega)
    refine ⟨?_, ?_, ?_, ?_⟩
    · rw [List.getElem?_set_ne (by omega), List.getElem?_set_ne (by omega), List.getElem?_set_ne (by omega), List.getElem?_set_ne (by omega)]; exact h.1
    · rw [List.getElem?_set_ne (by omega), List.getElem?_set_ne (by omega), List.getElem?_set_ne (by omega), List.getElem?_set_ne (by omega)]; exact h.2.1
    · rw [List.getElem?_set_ne (by omega), List.getElem?_set_ne (by omega), List.getElem?_set_ne (by omega), List.getElem?_set_ne (by omega)]; exact h.2.2.1
    · rw [List.getElem?_set_ne (by omega), List.getElem?_set_ne (by omega), List.getElem?_set_ne (by omega), List.getElem?_set_ne (by omega)]; exact h.2.2.2
theorem reads_of_row {w : World} {base g : Nat} {xs : List Value} {T : El} (h : w.ownsRow base 34 4 (.slice (some ⟨g, 0, none⟩) T.length T.length) T.length xs) (hg : Good xs T T.length) (hm : T.length ≤ maxLen) : ReadsE w (.slice (some ⟨g, 0, none⟩) T.length T.length) T := by
  refine Or.inr ⟨g, 0, T.length, rfl, Nat.le_refl _, hm, (h.lt g rfl).2, fun i hi => ?_⟩
  unfold C4
  rw [Nat.zero_add, h.cellAt (i * 4) (by omega), h.cellAt (i * 4 + 1) (by omega), h.cellAt (i * 4 + 2) (by omega), h.cellAt (i * 4 + 3) (by omega)]
  exact hg i hi

set_option maxHeartbeats 1000000 in
theorem toE_any (w : World) (v : Value) (T : El) (h : ReadsE w v T) (hl : T.length ≤ 1048576) :
    Calls Try.prog 6 #[v] w fun e w' => ∃ v', e = .returned v' ∧ ReadsE w' v' T ∧ Below w.heap.size w w' := by
  obtain ⟨i0, hi, hz0, hz1, hz2⟩ := info_parts Try.info34
  obtain ⟨a, cap, rfl⟩ := h.form
  have HC : Hid (∀ i, i < T.length → ∃ b o, a = some ⟨b, o, none⟩ ∧ T.length ≤ cap ∧ cap ≤ maxLen ∧ b < w.heap.size ∧ C4 w b o T i) := h.at
  obtain ⟨n, hn⟩ : ∃ n, n = T.length := ⟨_, rfl⟩
  rw [← hn] at hl ⊢
  have HN : Hid (n = T.length) := hn
  clear h hn
  go_enter Try.func6, Try.ntmps6
  go_wp2_with (at_make; refine wpList_make_full _ rfl _ _ 26 rfl w.heap.size 34 i0 (el 0 0 0 0) 4 Try.underlying26 hi hz0 hz1 .i64 .i64 (n : Int) (n : Int) n rfl rfl rfl rfl (by rw [hz2]; omega) (by unfold maxLen; omega) (Nat.le_refl _) ?_; intro w4 hown hgrow)
  have R0 : Hid (∃ xs, w4.ownsRow w.heap.size 34 4 (.slice (some ⟨w.heap.size, 0, none⟩) n n) n xs ∧ Good xs T 0) := ⟨_, hown, fun i hi => absurd hi (by omega)⟩
  have B0 : Hid (Below w.heap.size w w4) := (Below.refl _ _).grown hgrow (Nat.le_refl _) (fun k hk => by cases hk)
  clear hown hgrow
  go_loopw [4] (fun c wr => ∃ j : Nat, j ≤ n ∧ c = .int .i64 j ∧ Hid (∃ xs, wr.ownsRow w.heap.size 34 4 (.slice (some ⟨w.heap.size, 0, none⟩) n n) n xs ∧ Good xs T j) ∧ Hid (Below w.heap.size w wr)) (fun c _ => n - (intOf c).toNat)
  case atStart => exact ⟨0, Nat.zero_le _, rfl, R0, B0⟩
  case round =>
    obtain ⟨j, hj, rfl, R, BB⟩ := hrel
    by_cases hlt : j < n
    · have hlt' : j < T.length := by rw [← HN.out]; exact hlt
      obtain ⟨b, o, rfl, x1, x2, x3, x4⟩ := HC.out j hlt'
      have i0 : (0 : Int) ≤ (j : Int) := by omega
      have i1 : (j : Int) < (n : Int) := by omega
      have x5 := x4.on BB.out x3
      unfold C4 at x5
      obtain ⟨q0, q0b, q0c, q0d⟩ := x5
      obtain ⟨xs, RX, GX⟩ := R.out
      have RX' : Hid (wr.ownsRow w.heap.size 34 4 (.slice (some ⟨w.heap.size, 0, none⟩) n n) n xs) := RX
      have GX' : Hid (Good xs T j) := GX
      clear RX GX R x4
      obtain ⟨c, hcx⟩ : ∃ c, c = cO T j := ⟨_, rfl⟩
      obtain ⟨x, hxx⟩ : ∃ c, c = wO T j := ⟨_, rfl⟩
      obtain ⟨s, hsx⟩ : ∃ c, c = sO T j := ⟨_, rfl⟩
      obtain ⟨r, hrx⟩ : ∃ c, c = rO T j := ⟨_, rfl⟩
      rw [← hcx] at q0
      rw [← hxx] at q0b
      rw [← hsx] at q0c
      rw [← hrx] at q0d
      have HX : Hid (c = cO T j ∧ x = wO T j ∧ s = sO T j ∧ r = rO T j) := ⟨hcx, hxx, hsx, hrx⟩
      clear hcx hxx hsx hrx
      go_wp2_with fail
      refine (toElem_any _ _ _ _ _).mono ?_
      rintro e w5 ⟨rfl, hb5⟩
      have R5 : Hid (w5.ownsRow w.heap.size 34 4 (.slice (some ⟨w.heap.size, 0, none⟩) n n) n xs) := row_below RX'.out hb5
      have B5 : Hid (Below w.heap.size w w5) := BB.out.trans (hb5.mono BB.out.size)
      have lx : xs.length = n * 4 := R5.out.1
      obtain ⟨z1, q1⟩ : ∃ z, w5.cell? ⟨w.heap.size, j * 4, none⟩ = some z := ⟨xs[j * 4]'(by omega), by rw [R5.out.cellAt (j * 4) (by omega)]; exact List.getElem?_eq_getElem _⟩
      obtain ⟨z2, q2⟩ : ∃ z, w5.cell? ⟨w.heap.size, j * 4 + 1, none⟩ = some z := ⟨xs[j * 4 + 1]'(by omega), by rw [R5.out.cellAt (j * 4 + 1) (by omega)]; exact List.getElem?_eq_getElem _⟩
      obtain ⟨z3, q3⟩ : ∃ z, w5.cell? ⟨w.heap.size, j * 4 + 2, none⟩ = some z := ⟨xs[j * 4 + 2]'(by omega), by rw [R5.out.cellAt (j * 4 + 2) (by omega)]; exact List.getElem?_eq_getElem _⟩
      obtain ⟨z4, q4⟩ : ∃ z, w5.cell? ⟨w.heap.size, j * 4 + 3, none⟩ = some z := ⟨xs[j * 4 + 3]'(by omega), by rw [R5.out.cellAt (j * 4 + 3) (by omega)]; exact List.getElem?_eq_getElem _⟩
      have p1 : w5.frozen? ⟨w.heap.size, j * 4, none⟩ = false := R5.out.frozenAt _
      have p2 : w5.frozen? ⟨w.heap.size, j * 4 + 1, none⟩ = false := R5.out.frozenAt _
      have p3 : w5.frozen? ⟨w.heap.size, j * 4 + 2, none⟩ = false := R5.out.frozenAt _
      have p4 : w5.frozen? ⟨w.heap.size, j * 4 + 3, none⟩ = false := R5.out.frozenAt _
      have R6 : Hid (((((w5.setCell ⟨w.heap.size, j * 4, none⟩ (.int .i64 c)).setCell ⟨w.heap.size, j * 4 + 1, none⟩ (.int .i64 x)).setCell ⟨w.heap.size, j * 4 + 2, none⟩ (.int .i64 s)).setCell ⟨w.heap.size, j * 4 + 3, none⟩ (.int .i64 r)).ownsRow w.heap.size 34 4 (.slice (some ⟨w.heap.size, 0, none⟩) n n) n ((((xs.set (j * 4) (.int .i64 c)).set (j * 4 + 1) (.int .i64 x)).set (j * 4 + 2) (.int .i64 s)).set (j * 4 + 3) (.int .i64 r))) := ((((R5.out.stored (j * 4) _).1.stored (j * 4 + 1) _).1.stored (j * 4 + 2) _).1.stored (j * 4 + 3) _).1
      have G6 : Hid (Good ((((xs.set (j * 4) (.int .i64 c)).set (j * 4 + 1) (.int .i64 x)).set (j * 4 + 2) (.int .i64 s)).set (j * 4 + 3) (.int .i64 r)) T (j + 1)) := (by show Good _ _ _; rw [HX.out.1, HX.out.2.1, HX.out.2.2.1, HX.out.2.2.2]; exact GX'.out.next (by omega))
      have B6 : Hid (Below w.heap.size w ((((w5.setCell ⟨w.heap.size, j * 4, none⟩ (.int .i64 c)).setCell ⟨w.heap.size, j * 4 + 1, none⟩ (.int .i64 x)).setCell ⟨w.heap.size, j * 4 + 2, none⟩ (.int .i64 s)).setCell ⟨w.heap.size, j * 4 + 3, none⟩ (.int .i64 r))) := (((B5.out.setCell (Nat.le_refl _) _).setCell (Nat.le_refl _) _).setCell (Nat.le_refl _) _).setCell (Nat.le_refl _) _
      clear hb5 lx
      go_wp2_with fail
      go_roundw
      case rel => exact ⟨j + 1, by omega, by go_num, ⟨_, R6.out, G6.out⟩, B6⟩
      case measure => simp [intOf]; omega
    · have hjn : j = n := by omega
      subst hjn
      have RE : Hid (ReadsE wr (.slice (some ⟨w.heap.size, 0, none⟩) j j) T) := by
        show ReadsE _ _ _
        obtain ⟨xs, h1, h2⟩ := R.out
        have e := HN.out
        subst e
        exact reads_of_row h1 h2 (by unfold maxLen; omega)
      clear R
      go_wp2_with fail
      go_ret
      exact ⟨_, rfl, RE.out, BB.out⟩

set_option maxHeartbeats 1000000 in
theorem eqE_same (w : World) (v1 v2 : Value) (T : El) (h1 : ReadsE w v1 T) (h2 : ReadsE w v2 T) (hl : T.length ≤ 1048576) :
    Calls Try.prog 9 #[v1, v2] w fun e w' => e = .returned (.bool true) ∧ Below w.heap.size w w' := by
  obtain ⟨a1, cap1, rfl⟩ := h1.form
  obtain ⟨a2, cap2, rfl⟩ := h2.form
  have K1 : Hid (∀ i, i < T.length → ∃ b o, a1 = some ⟨b, o, none⟩ ∧ T.length ≤ cap1 ∧ cap1 ≤ maxLen ∧ b < w.heap.size ∧ C4 w b o T i) := h1.at
  have K2 : Hid (∀ i, i < T.length → ∃ b o, a2 = some ⟨b, o, none⟩ ∧ T.length ≤ cap2 ∧ cap2 ≤ maxLen ∧ b < w.heap.size ∧ C4 w b o T i) := h2.at
  obtain ⟨n, hn⟩ : ∃ n, n = T.length := ⟨_, rfl⟩
  rw [← hn] at hl ⊢
  have HN : Hid (n = T.length) := hn
  clear h1 h2 hn
  go_enter Try.func9, Try.ntmps9
  go_wp2_with fail
  go_loopw [5] (fun i wr => ∃ k : Nat, k ≤ n ∧ i = .int .i64 k ∧ Hid (Below w.heap.size w wr)) (fun i _ => n - (intOf i).toNat)
  case atStart => exact ⟨0, Nat.zero_le _, rfl, Below.refl _ _⟩
  case round =>
    obtain ⟨k, hk, rfl, BR⟩ := hrel
    by_cases hlt : k < n
    · obtain ⟨b1, o1, rfl, x1, x2, x3, x4⟩ := K1.out k (by rw [← HN.out]; exact hlt)
      obtain ⟨b2, o2, rfl, y1, y2, y3, y4⟩ := K2.out k (by rw [← HN.out]; exact hlt)
      have x5 := x4.on BR.out x3
      have y5 := y4.on BR.out y3
      unfold C4 at x5 y5
      obtain ⟨q0, q1, q2, q3⟩ := x5
      obtain ⟨p0, p1, p2, p3⟩ := y5
      have i0 : (0 : Int) ≤ (k : Int) := by omega
      have i1 : (k : Int) < (n : Int) := by omega
      unfold maxLen at x2 y2
      clear x4 y4
      obtain ⟨c, hcx⟩ : ∃ c, c = cO T k := ⟨_, rfl⟩
      obtain ⟨x, hxx⟩ : ∃ c, c = wO T k := ⟨_, rfl⟩
      obtain ⟨s, hsx⟩ : ∃ c, c = sO T k := ⟨_, rfl⟩
      obtain ⟨r, hrx⟩ : ∃ c, c = rO T k := ⟨_, rfl⟩
      rw [← hcx] at q0 p0
      rw [← hxx] at q1 p1
      rw [← hsx] at q2 p2
      rw [← hrx] at q3 p3
      clear hcx hxx hsx hrx
      go_wp2_with fail
      go_region_held3 (fun w' => w'.cell? ⟨b1, o1 + k * 4, none⟩ = some (.int .i64 c) ∧ w'.cell? ⟨b1, o1 + k * 4 + 1, none⟩ = some (.int .i64 x) ∧ w'.cell? ⟨b1, o1 + k * 4 + 2, none⟩ = some (.int .i64 s) ∧ w'.cell? ⟨b1, o1 + k * 4 + 3, none⟩ = some (.int .i64 r) ∧ w'.cell? ⟨b2, o2 + k * 4, none⟩ = some (.int .i64 c) ∧ w'.cell? ⟨b2, o2 + k * 4 + 1, none⟩ = some (.int .i64 x) ∧ w'.cell? ⟨b2, o2 + k * 4 + 2, none⟩ = some (.int .i64 s) ∧ w'.cell? ⟨b2, o2 + k * 4 + 3, none⟩ = some (.int .i64 r)) (go_keep)
        (first
        | (go_at_call 17; refine (eqElem_any _ _ _ _ _).mono ?_; rintro e w3' ⟨rfl, hb3⟩; have rb10 := (hb3.cell (p := ⟨b1, o1 + k * 4, none⟩) (Nat.lt_of_lt_of_le x3 BR.out.size)).trans q0; have rb11 := (hb3.cell (p := ⟨b1, o1 + k * 4 + 1, none⟩) (Nat.lt_of_lt_of_le x3 BR.out.size)).trans q1; have rb12 := (hb3.cell (p := ⟨b1, o1 + k * 4 + 2, none⟩) (Nat.lt_of_lt_of_le x3 BR.out.size)).trans q2; have rb13 := (hb3.cell (p := ⟨b1, o1 + k * 4 + 3, none⟩) (Nat.lt_of_lt_of_le x3 BR.out.size)).trans q3; have rb20 := (hb3.cell (p := ⟨b2, o2 + k * 4, none⟩) (Nat.lt_of_lt_of_le y3 BR.out.size)).trans p0; have rb21 := (hb3.cell (p := ⟨b2, o2 + k * 4 + 1, none⟩) (Nat.lt_of_lt_of_le y3 BR.out.size)).trans p1; have rb22 := (hb3.cell (p := ⟨b2, o2 + k * 4 + 2, none⟩) (Nat.lt_of_lt_of_le y3 BR.out.size)).trans p2; have rb23 := (hb3.cell (p := ⟨b2, o2 + k * 4 + 3, none⟩) (Nat.lt_of_lt_of_le y3 BR.out.size)).trans p3))
      have BX : Hid (Below w.heap.size w w3') := BR.out.drew.trans (hb3.mono BR.out.size)
      clear hb3
      go_wp2_with fail
      go_roundw
      case rel => exact ⟨k + 1, by omega, by go_num, BX⟩
      case measure => simp [intOf]; omega
    · go_wp2_with fail
      go_ret
      exact ⟨rfl, BR.out⟩
end Go.Proofs.Yteidipdjhkmgpaa.Lists
