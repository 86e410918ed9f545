/- Lists of levels copied. -/
import Derived.Test.YtgjimjgdbnicoaaLvA
namespace Go.Proofs.Ytgjimjgdbnicoaa.Flt
open Go.ChangeShapes Go.WideShapes Go.ChangeAt Go.RowKit
attribute [local go_sem] run_store_float

theorem row_below {B : Nat} {e : TypeId} {k : Nat} {v : Value} {n : Nat} {xs : List Value} {w w' : World} (h : w.ownsRow B e k v n xs) (hb : Below w.heap.size w w') : w'.ownsRow B e k v n xs := by
  refine ⟨h.1, ?_⟩
  rcases h.2 with h2 | ⟨g, cap, cur, h1, h2, h3, h4⟩
  · exact .inl h2
  · have hg : g < w.heap.size := by
      rcases Nat.lt_or_ge g w.heap.size with x | x
      · exact x
      · rw [Array.getElem?_eq_none x] at h3; cases h3
    exact .inr ⟨g, cap, cur, h1, h2, (hb.block g hg).trans h3, h4⟩

theorem Try.info38 : (Try.prog.info? 38).map (fun i => (i.zero, i.size, i.bytes)) = some (some (.agg #[.int .i64 0, .float .f64 0]), 2, 16) := by kernel_rfl
/-- The first j levels stand in the row. -/
def Good (xs : List Value) (L : Lv) (j : Nat) : Prop := ∀ i, i < j → xs[i * 2]? = some (.int .i64 (pOf L i)) ∧ xs[i * 2 + 1]? = some (.float .f64 (tOf L i))
theorem Good.next {xs : List Value} {L : Lv} {j : Nat} (h : Good xs L j) (hl : j * 2 + 1 < xs.length) : Good ((xs.set (j * 2) (.int .i64 (pOf L j))).set (j * 2 + 1) (.float .f64 (tOf L j))) L (j + 1) := by
  intro i hi
  by_cases e : i = j
  · subst e
    constructor
    · rw [List.getElem?_set_ne (by omega), List.getElem?_set_self (by omega)]
    · rw [List.getElem?_set_self (by simp; omega)]
  · rw [List.getElem?_set_ne (by omega), List.getElem?_set_ne (by omega), List.getElem?_set_ne (by omega), List.getElem?_set_ne (by omega)]
    exact h i (by omega)
theorem reads_of_row {w : World} {base g : Nat} {xs : List Value} {L : Lv} (h : w.ownsRow base 38 2 (.slice (some ⟨g, 0, none⟩) L.length L.length) L.length xs) (hg : Good xs L L.length) (hm : L.length ≤ maxLen) : Reads w (.slice (some ⟨g, 0, none⟩) L.length L.length) L := by
  refine Or.inr ⟨g, 0, L.length, rfl, Nat.le_refl _, hm, (h.lt g rfl).2, fun i hi => ?_⟩
  rw [Nat.zero_add, h.cellAt (i * 2) (by omega), h.cellAt (i * 2 + 1) (by omega)]
  exact hg i hi

set_option maxHeartbeats 1000000 in
theorem to_any (w : World) (v : Value) (L : Lv) (h : Reads w v L) (hl : L.length ≤ 1048576) :
    Calls Try.prog 6 #[v] w fun e w' => ∃ v', e = .returned v' ∧ Reads w' v' L ∧ Below w.heap.size w w' := by
  obtain ⟨i0, hi, hz0, hz1, hz2⟩ := info_parts Try.info38
  have hcell : ∃ f : Nat → Nat × Nat, (∀ i, i < L.length → w.cell? ⟨(f 0).1, (f 0).2 + i * 2, none⟩ = some (.int .i64 (pOf L i)) ∧ w.cell? ⟨(f 0).1, (f 0).2 + i * 2 + 1, none⟩ = some (.float .f64 (tOf L i))) ∧ (0 < L.length → (f 0).1 < w.heap.size ∧ ∃ cap, v = .slice (some ⟨(f 0).1, (f 0).2, none⟩) L.length cap) := by
    rcases h with ⟨rfl, _⟩ | ⟨b, o, cap, h1, h2, h3, h4, h5⟩
    · exact ⟨fun _ => (0, 0), fun i hi => by simp at hi, fun hi => by simp at hi⟩
    · exact ⟨fun _ => (b, o), h5, fun _ => ⟨h4, cap, h1⟩⟩
  obtain ⟨f, hc, hv⟩ := hcell
  obtain ⟨a, cap, rfl⟩ := h.form
  have HC : Hid (∀ i, i < L.length → w.cell? ⟨(f 0).1, (f 0).2 + i * 2, none⟩ = some (.int .i64 (pOf L i)) ∧ w.cell? ⟨(f 0).1, (f 0).2 + i * 2 + 1, none⟩ = some (.float .f64 (tOf L i))) := hc
  have HV : Hid (0 < L.length → (f 0).1 < w.heap.size ∧ a = some ⟨(f 0).1, (f 0).2, none⟩) := fun hi => by
    obtain ⟨h1, c, h2⟩ := hv hi
    simp at h2
    exact ⟨h1, h2.1⟩
  obtain ⟨n, hn⟩ : ∃ n, n = L.length := ⟨_, rfl⟩
  rw [← hn] at hl ⊢
  have HN : Hid (n = L.length) := hn
  clear h hc hv hn
  go_enter Try.func6, Try.ntmps6
  go_wp2_with (at_make; refine wpList_make_full _ rfl _ _ 27 rfl w.heap.size 38 i0 (.agg #[.int .i64 0, .float .f64 0]) 2 Try.underlying27 hi hz0 hz1 .i64 .i64 (n : Int) (n : Int) n rfl rfl rfl rfl (by rw [hz2]; omega) (by unfold maxLen; omega) (Nat.le_refl _) ?_; intro w4 hown hgrow)
  have R0 : Hid (∃ xs, w4.ownsRow w.heap.size 38 2 (.slice (some ⟨w.heap.size, 0, none⟩) n n) n xs ∧ Good xs L 0) := ⟨_, hown, fun i hi => absurd hi (by omega)⟩
  have B0 : Hid (Below w.heap.size w w4) := (Below.refl _ _).grown hgrow (Nat.le_refl _) (fun k hk => by cases hk)
  clear hown hgrow
  go_loopw [4] (fun c wr => ∃ j : Nat, j ≤ n ∧ c = .int .i64 j ∧ Hid (∃ xs, wr.ownsRow w.heap.size 38 2 (.slice (some ⟨w.heap.size, 0, none⟩) n n) n xs ∧ Good xs L j) ∧ Hid (Below w.heap.size w wr)) (fun c _ => n - (intOf c).toNat)
  case atStart => exact ⟨0, Nat.zero_le _, rfl, R0, B0⟩
  case round =>
    obtain ⟨j, hj, rfl, R, BB⟩ := hrel
    by_cases hlt : j < n
    · have hlt' : j < L.length := by rw [← HN.out]; exact hlt
      obtain ⟨v1, v2⟩ := HV.out (by omega)
      subst v2
      have i0 : (0 : Int) ≤ (j : Int) := by omega
      have i1 : (j : Int) < (n : Int) := by omega
      have q0 : wr.cell? ⟨(f 0).1, (f 0).2 + j * 2, none⟩ = some (.int .i64 (pOf L j)) := (BB.out.cell (p := ⟨(f 0).1, (f 0).2 + j * 2, none⟩) v1).trans (HC.out j hlt').1
      have q0' : wr.cell? ⟨(f 0).1, (f 0).2 + j * 2 + 1, none⟩ = some (.float .f64 (tOf L j)) := (BB.out.cell (p := ⟨(f 0).1, (f 0).2 + j * 2 + 1, none⟩) v1).trans (HC.out j hlt').2
      obtain ⟨xs, RX, GX⟩ := R.out
      have RX' : Hid (wr.ownsRow w.heap.size 38 2 (.slice (some ⟨w.heap.size, 0, none⟩) n n) n xs) := RX
      have GX' : Hid (Good xs L j) := GX
      clear RX GX R
      generalize hx : pOf L j = x at *
      generalize hu : tOf L j = u at *
      have HX : Hid (pOf L j = x ∧ tOf L j = u) := ⟨hx, hu⟩
      clear hx hu
      go_wp2_with fail
      refine (toLevel_any _ _ _).mono ?_
      rintro e w5 ⟨rfl, hb5⟩
      have R5 : Hid (w5.ownsRow w.heap.size 38 2 (.slice (some ⟨w.heap.size, 0, none⟩) n n) n xs) := row_below RX'.out hb5
      have B5 : Hid (Below w.heap.size w w5) := BB.out.trans (hb5.mono BB.out.size)
      have lx : xs.length = n * 2 := R5.out.1
      obtain ⟨z1, q1⟩ : ∃ z, w5.cell? ⟨w.heap.size, j * 2, none⟩ = some z := ⟨xs[j * 2]'(by omega), by rw [R5.out.cellAt (j * 2) (by omega)]; exact List.getElem?_eq_getElem _⟩
      obtain ⟨z2, q2⟩ : ∃ z, w5.cell? ⟨w.heap.size, j * 2 + 1, none⟩ = some z := ⟨xs[j * 2 + 1]'(by omega), by rw [R5.out.cellAt (j * 2 + 1) (by omega)]; exact List.getElem?_eq_getElem _⟩
      have q3 : w5.frozen? ⟨w.heap.size, j * 2, none⟩ = false := R5.out.frozenAt _
      have q4 : w5.frozen? ⟨w.heap.size, j * 2 + 1, none⟩ = false := R5.out.frozenAt _
      have R6 : Hid (((w5.setCell ⟨w.heap.size, j * 2, none⟩ (.int .i64 x)).setCell ⟨w.heap.size, j * 2 + 1, none⟩ (.float .f64 u)).ownsRow w.heap.size 38 2 (.slice (some ⟨w.heap.size, 0, none⟩) n n) n ((xs.set (j * 2) (.int .i64 x)).set (j * 2 + 1) (.float .f64 u))) := ((R5.out.stored (j * 2) _).1.stored (j * 2 + 1) _).1
      have G6 : Hid (Good ((xs.set (j * 2) (.int .i64 x)).set (j * 2 + 1) (.float .f64 u)) L (j + 1)) := (by show Good _ _ _; rw [← HX.out.1, ← HX.out.2]; exact GX'.out.next (by omega))
      have B6 : Hid (Below w.heap.size w ((w5.setCell ⟨w.heap.size, j * 2, none⟩ (.int .i64 x)).setCell ⟨w.heap.size, j * 2 + 1, none⟩ (.float .f64 u))) := (B5.out.setCell (Nat.le_refl _) _).setCell (Nat.le_refl _) _
      clear hb5 lx
      go_wp2_with fail
      go_roundw
      case rel => exact ⟨j + 1, by omega, by go_num, ⟨_, R6.out, G6.out⟩, B6⟩
      case measure => simp [intOf]; omega
    · have hjn : j = n := by omega
      subst hjn
      have RE : Hid (Reads wr (.slice (some ⟨w.heap.size, 0, none⟩) j j) L) := by
        show Reads _ _ _
        obtain ⟨xs, h1, h2⟩ := R.out
        have e := HN.out
        subst e
        exact reads_of_row h1 h2 (by unfold maxLen; omega)
      clear R
      go_wp2_with fail
      go_ret
      exact ⟨_, rfl, RE.out, BB.out⟩
end Go.Proofs.Ytgjimjgdbnicoaa.Flt
