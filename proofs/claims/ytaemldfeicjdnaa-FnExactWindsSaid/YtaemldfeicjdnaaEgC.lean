/- The edges of a loop: the model. -/
import Derived.Test.YtaemldfeicjdnaaEgB
import Derived.Deep.RegionHeldLaw
import Derived.Deep.AppendLies
import Derived.Maps.AppendAt
namespace Go.Proofs.Ytaemldfeicjdnaa.Lp
open Go.ChangeShapes Go.WideShapes Go.ChangeAt Go.RowKit
open Go.Proofs.Ytaemldfeicjdnaa.Lists

def px (x : Int) (L : List Int) : Nat → Int
  | 0 => x
  | k + 1 => px x L k + dx (L.getD k 0)
def py (y : Int) (L : List Int) : Nat → Int
  | 0 => y
  | k + 1 => py y L k + dy (L.getD k 0)
def way (x y : Int) (L : List Int) (k : Nat) : Eg.Ls := (List.range k).map fun i => (px x L i, py y L i, L.getD i 0)
theorem way_len (x y : Int) (L : List Int) (k : Nat) : (way x y L k).length = k := by simp [way]
theorem way_next (x y : Int) (L : List Int) (k : Nat) : way x y L (k + 1) = way x y L k ++ [(px x L k, py y L k, L.getD k 0)] := by
  unfold way
  rw [List.range_succ, List.map_append]
  rfl
theorem dx_le (d : Int) : -1 ≤ dx d ∧ dx d ≤ 1 := by unfold dx; split; omega; split <;> omega
theorem dy_le (d : Int) : -1 ≤ dy d ∧ dy d ≤ 1 := by unfold dy; split; omega; split <;> omega
theorem px_le (x : Int) (L : List Int) (k : Nat) (h : -1000000 ≤ x ∧ x ≤ 1000000) : -1000000 - (k : Int) ≤ px x L k ∧ px x L k ≤ 1000000 + (k : Int) := by
  induction k with
  | zero => simpa [px] using h
  | succ k ih => have := dx_le (L.getD k 0); unfold px; omega
theorem py_le (y : Int) (L : List Int) (k : Nat) (h : -1000000 ≤ y ∧ y ≤ 1000000) : -1000000 - (k : Int) ≤ py y L k ∧ py y L k ≤ 1000000 + (k : Int) := by
  induction k with
  | zero => simpa [py] using h
  | succ k ih => have := dy_le (L.getD k 0); unfold py; omega
theorem Try.info55 : (Try.prog.info? 55).map (fun i => (i.zero, i.size, i.bytes)) = some (some (.agg #[.int .i64 0, .int .i64 0, .int .i64 0]), 3, 24) := by kernel_rfl

theorem Row.down {w : World} {B B' : Nat} {v : Value} {L : Eg.Ls} (h : Eg.Row w B v L) (hb : B' ≤ B) : Eg.Row w B' v L := by
  obtain ⟨xs, h, hg⟩ := h
  refine ⟨xs, ⟨h.1, ?_⟩, hg⟩
  rcases h.2 with h | ⟨gx, cap, cur, h1, h2, h3⟩
  · exact .inl h
  · exact .inr ⟨gx, cap, cur, h1, by omega, h3⟩

set_option maxHeartbeats 1000000 in
theorem way_no (x y : Int) (L : List Int) (v : Value) (w : World) (hL : Lists.Reads w v L) (hf : L.length < 9223372036854775808) (h : okL x y L = false) :
    Calls Try.prog 30 #[sv x y v] w fun e w' => ∃ v', e = .returned v' ∧ Eg.Row w' w.heap.size v' [] ∧ Below w.heap.size w w' := by
  obtain ⟨w0, hw0⟩ : ∃ w0, w0 = (w.alloc (Obj.cells #[.int .i64 x, .int .i64 y, v] 41)).alloc (Obj.cells #[] 55) := ⟨_, rfl⟩
  have HW0 : Hid (w0 = (w.alloc (Obj.cells #[.int .i64 x, .int .i64 y, v] 41)).alloc (Obj.cells #[] 55)) := hw0
  have B0 : Hid (Below w.heap.size w w0) := (by show Below _ _ _; rw [hw0]; exact ((Below.refl _ _).alloc (Nat.le_refl _) _).alloc (by simp) _)
  have S0 : Hid (Calls Try.prog 34 #[sv x y v] w0 fun e w' => e = .returned (.bool false) ∧ Below w0.heap.size w0 w') := by
    have := sok_any x y L v w0 (hL.on B0.out) hf
    rwa [h] at this
  have R0 : Hid (Eg.Row w0 (w.heap.size + 1) (.slice (some ⟨w.heap.size + 1, 0, none⟩) 0 0) []) := (by
    show Eg.Row _ _ _ _
    rw [hw0]
    have := World.ownsRow_lit (e := 55) (w.alloc (Obj.cells #[.int .i64 x, .int .i64 y, v] 41)) #[] 0 (size := 3) (Nat.le_refl _) (Nat.zero_le _) rfl
    simp at this
    exact ⟨[], this, fun i hi => absurd hi (by simp)⟩)
  clear hL h hw0
  go_enter Try.func30, Try.ntmps30
  go_wp2_with fail
  rw [← HW0.out]
  refine S0.out.mono ?_
  rintro e w1 ⟨rfl, b1⟩
  have R1 : Hid (Eg.Row w1 (w.heap.size + 1) (.slice (some ⟨w.heap.size + 1, 0, none⟩) 0 0) []) := R0.out.on b1
  have B1 : Hid (Below w.heap.size w w1) := B0.out.trans (b1.mono B0.out.size)
  clear b1 HW0
  go_wp2_with fail
  go_ret
  exact ⟨_, rfl, Row.down R1.out (Nat.le_succ _), B1.out⟩

theorem reads_at {w : World} {v : Value} {L : List Int} (hL : Lists.Reads w v L) : ∃ b o, (∀ i, i < L.length → w.cell? ⟨b, o + i, none⟩ = some (.int .i64 (L.getD i 0))) ∧ (0 < L.length → b < w.heap.size ∧ ∃ cap, v = .slice (some ⟨b, o, none⟩) L.length cap) := by
  rcases hL with ⟨rfl, _⟩ | ⟨b, o, cap, h1, h2, h3, h4, h5⟩
  · exact ⟨0, 0, fun i hi => by simp at hi, fun hi => by simp at hi⟩
  · exact ⟨b, o, h5, fun _ => ⟨h4, cap, h1⟩⟩
theorem ok_parts {x y : Int} {L : List Int} (h : okL x y L = true) : L.length ≤ 2000 ∧ (-1000000 ≤ x ∧ x ≤ 1000000) ∧ (-1000000 ≤ y ∧ y ≤ 1000000) ∧ ∀ i, i < L.length → 0 ≤ L.getD i 0 ∧ L.getD i 0 ≤ 3 := by
  unfold okL heads at h
  simp only [Bool.and_eq_true, decide_eq_true_eq, inn_iff, List.all_eq_true] at h
  refine ⟨h.1.1, h.1.2.1, h.1.2.2, fun i hi => h.2 _ (by simp [List.getD_eq_getElem?_getD, hi])⟩

set_option maxHeartbeats 1000000 in
theorem way_yes (x y : Int) (L : List Int) (v : Value) (w : World) (hL : Lists.Reads w v L) (h : okL x y L = true) :
    Calls Try.prog 30 #[sv x y v] w fun e w' => ∃ v', e = .returned v' ∧ Eg.Row w' w.heap.size v' (way x y L L.length) ∧ Below w.heap.size w w' := by
  obtain ⟨l1, hx, hy, hd⟩ := ok_parts h
  obtain ⟨b, o, hc, hv⟩ := reads_at hL
  have hf : L.length < 9223372036854775808 := by omega
  obtain ⟨w0, hw0⟩ : ∃ w0, w0 = (w.alloc (Obj.cells #[.int .i64 x, .int .i64 y, v] 41)).alloc (Obj.cells #[] 55) := ⟨_, rfl⟩
  have HW0 : Hid (w0 = (w.alloc (Obj.cells #[.int .i64 x, .int .i64 y, v] 41)).alloc (Obj.cells #[] 55)) := hw0
  have B0 : Hid (Below w.heap.size w w0) := (by show Below _ _ _; rw [hw0]; exact ((Below.refl _ _).alloc (Nat.le_refl _) _).alloc (by simp) _)
  have z0 : w0.heap.size = w.heap.size + 2 := by rw [hw0]; simp
  have S0 : Hid (Calls Try.prog 34 #[sv x y v] w0 fun e w' => e = .returned (.bool true) ∧ Below w0.heap.size w0 w') := by
    have := sok_any x y L v w0 (hL.on B0.out) hf
    rwa [h] at this
  have R0 : Hid (Eg.Row w0 (w.heap.size + 1) (.slice (some ⟨w.heap.size + 1, 0, none⟩) 0 0) (way x y L 0)) := (by
    show Eg.Row _ _ _ _
    rw [hw0]
    have := World.ownsRow_lit (e := 55) (w.alloc (Obj.cells #[.int .i64 x, .int .i64 y, v] 41)) #[] 0 (size := 3) (Nat.le_refl _) (Nat.zero_le _) rfl
    simp at this
    exact ⟨[], this, fun i hi => absurd hi (by simp [way])⟩)
  obtain ⟨a, cap, rfl⟩ := hL.form
  have X0 : Hid (Box3 w0 w.heap.size (.int .i64 x) (.int .i64 y) (.slice a L.length cap)) := (by show Box3 _ _ _ _ _; rw [hw0]; unfold Box3; simp [go_sem])
  have HC : Hid (∀ i, i < L.length → w.cell? ⟨b, o + i, none⟩ = some (.int .i64 (L.getD i 0))) := hc
  have HV : Hid (0 < L.length → b < w.heap.size ∧ a = some ⟨b, o, none⟩) := fun hi => by
    obtain ⟨h1, c, h2⟩ := hv hi
    simp at h2
    exact ⟨h1, h2.1⟩
  have HD : Hid (∀ i, i < L.length → 0 ≤ L.getD i 0 ∧ L.getD i 0 ≤ 3) := hd
  obtain ⟨i0, hi, hz0, hz1, hz2⟩ := info_parts Try.info55
  obtain ⟨n, hn⟩ : ∃ n, n = L.length := ⟨_, rfl⟩
  rw [← hn] at l1 X0 HW0 S0 ⊢
  have HN : Hid (n = L.length) := hn
  clear hL h hw0 hc hv hd hn
  go_enter Try.func30, Try.ntmps30
  go_wp2_with fail
  rw [← HW0.out]
  refine S0.out.mono ?_
  rintro e w1 ⟨rfl, b1⟩
  have R1 : Hid (Eg.Row w1 (w.heap.size + 1) (.slice (some ⟨w.heap.size + 1, 0, none⟩) 0 0) (way x y L 0)) := R0.out.on b1
  have B1 : Hid (Below w.heap.size w w1) := B0.out.trans (b1.mono B0.out.size)
  have z1 := b1.size
  have X1 : Hid (Box3 w1 w.heap.size (.int .i64 x) (.int .i64 y) (.slice a n cap)) := X0.out.on b1 (by omega)
  obtain ⟨c0, c1, c2⟩ := id X1.out
  clear b1 HW0 X0 S0 R0 B0
  go_wp2_with fail
  go_loopw [3, 4, 5, 6] (fun v xx yy i wr => ∃ k : Nat, k ≤ n ∧ i = .int .i64 k ∧ xx = .int .i64 (px x L k) ∧ yy = .int .i64 (py y L k) ∧ Hid (Eg.Row wr (w.heap.size + 1) v (way x y L k)) ∧ Hid (Below (w.heap.size + 1) w1 wr)) (fun _ _ _ i _ => n - (intOf i).toNat)
  case atStart => exact ⟨0, Nat.zero_le _, rfl, rfl, rfl, R1, Below.refl _ _⟩
  case round =>
    obtain ⟨k, hk, rfl, rfl, rfl, R, BB⟩ := hrel
    have bx := px_le x L k hx
    have by' := py_le y L k hy
    have wl := way_len x y L k
    obtain ⟨sa, sc, hv⟩ := R.out.form
    subst hv
    have zr := BB.out.size
    have e2 : wr.cell? ⟨w.heap.size, 2, none⟩ = some (.slice a n cap) := (BB.out.cell (p := ⟨w.heap.size, 2, none⟩) (Nat.lt_succ_self _)).trans c2
    by_cases hlt : k < n
    · have hkl : k < L.length := by have := HN.out; omega
      obtain ⟨hb, hx'⟩ := HV.out (by omega)
      subst hx'
      have q : wr.cell? ⟨b, o + k, none⟩ = some (.int .i64 (L.getD k 0)) := (BB.out.cell (p := ⟨b, o + k, none⟩) (by show b < _; omega)).trans ((B1.out.cell (p := ⟨b, o + k, none⟩) hb).trans (HC.out k hkl))
      obtain ⟨d0, d3⟩ := HD.out k hkl
      have i2 : (0 : Int) ≤ (k : Int) := by omega
      have i3 : (k : Int) < (n : Int) := by omega
      have WN : Hid (way x y L (k + 1) = way x y L k ++ [(px x L k, py y L k, L.getD k 0)]) := way_next x y L k
      have PX : Hid (px x L (k + 1) = px x L k + dx (L.getD k 0)) := rfl
      have PY : Hid (py y L (k + 1) = py y L k + dy (L.getD k 0)) := rfl
      obtain ⟨xs, O, G⟩ := R.out
      rw [wl] at O ⊢
      have O' : Hid (wr.ownsRow (w.heap.size + 1) 55 3 (.slice sa k sc) k xs) := O
      have G' : Hid (Eg.Good xs (way x y L k) (way x y L k).length) := G
      have WL : Hid ((way x y L k).length = k) := wl
      generalize L.getD k 0 = d at *
      generalize px x L k = p at *
      generalize py y L k = q at *
      have OL : Hid (∀ g, (Value.slice sa k sc).ownBlock = some g → w.heap.size + 1 ≤ g ∧ g < wr.heap.size) := fun g hg => O.lt g hg
      clear O G R wl
      go_wp2_with (at_builtin; refine wpList_append_own _ rfl _ _ 52 rfl (w.heap.size + 1) 55 i0 (.agg #[.int .i64 0, .int .i64 0, .int .i64 0]) 3 24 Try.underlying52 hi hz0 hz1 hz2 rfl (by decide) _ _ _ rfl ((O'.out.alloc _).alloc _) ⟨wr.heap.size + 1, 0, none⟩ 1 1 [.int .i64 p, .int .i64 q, .int .i64 d] rfl rfl ?c1 ?c2 ?c3 ?c4 ?c5 ?_)
      case c2 => exact ⟨rfl, rfl, rfl⟩
      case c3 => unfold maxLen; omega
      case c4 => omega
      case c5 => omega
      · intro v' w2 hown hgrow _
        have hgs := hgrow.size
        simp at hgs
        have R2 : Hid (Eg.Row w2 (w.heap.size + 1) v' (way x y L (k + 1))) := (by
          show Eg.Row _ _ _ _
          rw [WN.out]
          refine ⟨_, ?_, Eg.good_snoc G'.out (by rw [WL.out]; exact O'.out.1)⟩
          simp only [List.length_append, WL.out, List.length_cons, List.length_nil]
          exact hown)
        have B2 : Hid (Below (w.heap.size + 1) w1 w2) := ((BB.out.alloc (by omega) _).alloc (by simp; omega) _).grown hgrow (by simp; omega) (fun b hb => (OL.out b hb).1)
        have ne : ∀ g, (Value.slice sa k sc).ownBlock = some g → g ≠ wr.heap.size := fun g hg => by have := OL.out g hg; omega
        have g0 : w2.cell? ⟨wr.heap.size, 0, none⟩ = some (.int .i64 p) := (hgrow.cell_far ⟨wr.heap.size, 0, none⟩ (by simp; omega) (fun h => ne _ h.symm rfl)).trans (by simp [go_sem])
        have g1 : w2.cell? ⟨wr.heap.size, 1, none⟩ = some (.int .i64 q) := (hgrow.cell_far ⟨wr.heap.size, 1, none⟩ (by simp; omega) (fun h => ne _ h.symm rfl)).trans (by simp [go_sem])
        have g2 : w2.cell? ⟨wr.heap.size, 2, none⟩ = some (.int .i64 d) := (hgrow.cell_far ⟨wr.heap.size, 2, none⟩ (by simp; omega) (fun h => ne _ h.symm rfl)).trans (by simp [go_sem])
        clear hown hgrow O' G' BB ne OL
        go_wp2_with fail
        refine (ahead_any p q d w2 d0 d3 (by omega) (by omega)).mono ?_
        rintro e w3 ⟨rfl, b3⟩
        have R3 : Hid (Eg.Row w3 (w.heap.size + 1) v' (way x y L (k + 1))) := R2.out.on b3
        have B3 : Hid (Below (w.heap.size + 1) w1 w3) := B2.out.trans (b3.mono (by omega))
        clear b3 R2 B2 g0 g1 g2
        go_wp2_with fail
        go_roundw
        case rel => exact ⟨k + 1, by omega, by go_num, by rw [PX.out], by rw [PY.out], R3, B3⟩
        case measure => simp [intOf]; omega
    · have hkn : k = n := by omega
      subst hkn
      go_wp2_with fail
      go_ret
      exact ⟨_, rfl, Row.down R.out (Nat.le_succ _), B1.out.trans (BB.out.mono (Nat.le_succ _))⟩
end Go.Proofs.Ytaemldfeicjdnaa.Lp
