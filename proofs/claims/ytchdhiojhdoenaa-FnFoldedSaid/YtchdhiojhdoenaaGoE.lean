/- A text and a width, drawn. -/
import Derived.Test.YtchdhiojhdoenaaGoD
namespace Go.Proofs.Ytchdhiojhdoenaa.Rd
open Go.ChangeShapes Go.WideShapes Go.ChangeAt Go.RowKit

/-- a cell of a new row, behind a draw -/
theorem cell_new {r : Nat} {wr w2 : World} {C : Array Value} {T : TypeId} (hr : r < wr.heap.size) (t : Turn r (wr.alloc (.cells C T)) w2) (k : Nat) : w2.cell? ⟨wr.heap.size, k, none⟩ = C[k]? := by
  rw [t.cell k (by simp) (by omega)]
  simp [World.cell?_alloc_new]

def small (v : Value) : Bool := match v with | .string t => decide (t.size ≤ 11) | _ => false
theorem small_of {v : Value} (h : small v = true) : ∃ t : ByteArray, v = .string t ∧ t.size ≤ 11 := by
  unfold small at h
  split at h
  · exact ⟨_, rfl, by simpa using h⟩
  · cases h
theorem all_small {C : Array Value} {k : Nat} (h : C.all small = true) (hk : k < C.size) : ∃ t : ByteArray, C[k]? = some (.string t) ∧ t.size ≤ 11 := by
  have := (Array.all_eq_true.1 h) k hk
  obtain ⟨t, h1, h2⟩ := small_of this
  exact ⟨t, by rw [Array.getElem?_eq_getElem hk, h1], h2⟩
def wide (v : Value) : Bool := match v with | .int .i64 x => decide (-1 ≤ x) && decide (x ≤ 201) | _ => false
theorem wide_of {v : Value} (h : wide v = true) : ∃ x : Int, v = .int .i64 x ∧ -1 ≤ x ∧ x ≤ 201 := by
  unfold wide at h
  split at h
  · simp at h; exact ⟨_, rfl, h.1, h.2⟩
  · cases h
theorem all_wide {C : Array Value} {k : Nat} (h : C.all wide = true) (hk : k < C.size) : ∃ x : Int, C[k]? = some (.int .i64 x) ∧ -1 ≤ x ∧ x ≤ 201 := by
  have := (Array.all_eq_true.1 h) k hk
  obtain ⟨t, h1, h2⟩ := wide_of this
  exact ⟨t, by rw [Array.getElem?_eq_getElem hk, h1], h2⟩

set_option maxHeartbeats 2000000 in
set_option maxRecDepth 100000 in
theorem words_any (r : Nat) (w : World) (h : Rd r w) :
    Calls Try.prog 12 #[.pointer (some ⟨r, 0, none⟩), .int .i64 90] w fun e w' => (∃ t : ByteArray, t.size ≤ 990 ∧ e = .returned (.string t)) ∧ Rd r w' ∧ Turn r w w' := by
  have SZ : Hid (∀ w, Rd r w → Calls Try.prog 23 #[.pointer (some ⟨r, 0, none⟩), .int .i64 12, .int .i64 90] w (Drawn r w fun u => 0 ≤ u ∧ u ≤ 90)) := fun w h => size_any r w h
  have BL : Hid (∀ w, Rd r w → Calls Try.prog 11 #[.pointer (some ⟨r, 0, none⟩), .int .i64 20] w (Drawn r w fun u => 0 ≤ u ∧ u < 20)) := fun w h => below_any r w h 20 (by omega) (by omega)
  have H0 : Hid (Rd r w) := h
  clear h
  go_enter Try.func12, Try.ntmps12
  go_wp2_with fail
  refine (SZ.out _ H0.out).mono ?_
  rintro e w1 ⟨⟨n0, ⟨hn1, hn2⟩, rfl⟩, k1, t1⟩
  obtain ⟨n, rfl⟩ : ∃ n : Nat, n0 = n := ⟨n0.toNat, by omega⟩
  have K1 : Hid (Rd r w1) := k1
  have T1 : Hid (Turn r w w1) := t1
  clear k1 t1 H0
  go_wp2_with fail
  go_loopw [6, 7] (fun s y wr => ∃ (i : Nat) (t : ByteArray), i ≤ n ∧ y = .int .i64 (i : Nat) ∧ s = .string t ∧ t.size ≤ 11 * i ∧ Hid (Rd r wr) ∧ Hid (Turn r w wr)) (fun _ y _ => n - (intOf y).toNat)
  case atStart => exact ⟨0, ⟨#[]⟩, Nat.zero_le _, rfl, rfl, Nat.le_refl _, K1, T1⟩
  case round =>
    clear K1 T1
    obtain ⟨i, t, hi, rfl, rfl, ht, K, T⟩ := hrel
    by_cases hlt : i < n
    · have i1 : (i : Int) < (n : Int) := by omega
      have hr := K.out.lt
      have KA : Hid (∀ o, Rd r (wr.alloc o)) := fun o => K.out.kept ((Below.refl wr.heap.size wr).alloc (Nat.le_refl _) _) hr
      have TA : Hid (∀ o, Turn r w (wr.alloc o)) := fun o => T.out.trans (Turn.of ((Below.refl wr.heap.size wr).alloc (Nat.le_refl _) o) (Nat.le_refl _) (by omega))
      go_wp2_with fail
      refine (BL.out _ (KA.out _)).mono ?_
      rintro e w2 ⟨⟨u0, ⟨hu1, hu2⟩, rfl⟩, k2, t2⟩
      obtain ⟨u, rfl⟩ : ∃ u : Nat, u0 = u := ⟨u0.toNat, by omega⟩
      have cn := cell_new hr t2 u
      have CL : ∃ x : ByteArray, w2.cell? ⟨wr.heap.size, u, none⟩ = some (.string x) ∧ x.size ≤ 11 := by
        rw [cn]
        exact all_small (by kernel_rfl) (by simp; omega)
      obtain ⟨x, hx, hxs⟩ := CL
      have K2 : Hid (Rd r w2) := k2
      have T2 : Hid (Turn r w w2) := (TA.out _).trans t2
      have u0 : (0 : Int) ≤ (u : Int) := by omega
      have u1 : (u : Int) < 20 := by omega
      have u2 : u < 20 := by omega
      have ts : t.size ≤ 990 := by omega
      clear cn k2 t2 KA TA K T hr
      go_wp2_with fail
      go_roundw
      case rel => exact ⟨i + 1, t ++ x, by omega, by go_num, rfl, by rw [ByteArray.size_append]; omega, K2, T2⟩
      case measure => simp [intOf]; omega
    · have i1 : ¬ (i : Int) < (n : Int) := by omega
      have ts : t.size ≤ 990 := by omega
      go_wp2_with fail
      go_ret
      exact ⟨⟨t, ts, rfl⟩, K.out, T.out⟩

set_option maxHeartbeats 2000000 in
set_option maxRecDepth 100000 in
theorem drawFold_any (a : Option Addr) (n cap : Nat) (w : World) (h : Code w a n cap) (hn : n ≤ 1048576) :
    Calls Try.prog 5 #[.slice a n cap] w fun e w' => (∃ (t : ByteArray) (b : Int), t.size ≤ 20000 ∧ e = .returned (.tuple #[.string t, .int .i64 b])) ∧ Below w.heap.size w w' := by
  have OP : Hid (Calls Try.prog 10 #[.slice a n cap] w fun e w' => e = .returned (.pointer (some ⟨w.heap.size, 0, none⟩)) ∧ w' = w.alloc (.cells #[.slice a n cap, .int .i64 0] 45)) := open_any _ a n cap rfl w
  have RA : Hid (Rd w.heap.size (w.alloc (.cells #[.slice a n cap, .int .i64 0] 45))) := Rd.new h hn (Below.refl _ _)
  have BL : Hid (∀ w', Rd w.heap.size w' → Calls Try.prog 11 #[.pointer (some ⟨w.heap.size, 0, none⟩), .int .i64 8] w' (Drawn w.heap.size w' fun u => 0 ≤ u ∧ u < 8)) := fun w' h => below_any w.heap.size w' h 8 (by omega) (by omega)
  have WO : Hid (∀ w', Rd w.heap.size w' → Calls Try.prog 12 #[.pointer (some ⟨w.heap.size, 0, none⟩), .int .i64 90] w' fun e w'' => (∃ t : ByteArray, t.size ≤ 990 ∧ e = .returned (.string t)) ∧ Rd w.heap.size w'' ∧ Turn w.heap.size w' w'') := fun w' h => words_any w.heap.size w' h
  have ON : Hid (∀ w', Rd w.heap.size w' → Calls Try.prog 13 #[.pointer (some ⟨w.heap.size, 0, none⟩), .int .i64 5] w' fun e w'' => (∃ u : Bool, e = .returned (.bool u)) ∧ Rd w.heap.size w'' ∧ Turn w.heap.size w' w'') := fun w' h => once_any w.heap.size w' h 5 (by omega) (by omega)
  have B0 : Hid (Below w.heap.size w (w.alloc (.cells #[.slice a n cap, .int .i64 0] 45))) := (Below.refl _ _).alloc (Nat.le_refl _) _
  clear h hn
  go_enter Try.func5, Try.ntmps5
  go_wp2_with fail
  refine (Calls.mono OP.out) ?_
  rintro e w1 ⟨rfl, hw1⟩
  rw [← hw1] at RA B0
  have hr := RA.out.lt
  clear hw1 OP
  have KA : Hid (∀ o, Rd w.heap.size (w1.alloc o)) := fun o => RA.out.kept ((Below.refl w1.heap.size w1).alloc (Nat.le_refl _) _) hr
  have BA : Hid (∀ o, Below w.heap.size w (w1.alloc o)) := fun o => B0.out.alloc B0.out.size _
  go_wp2_with fail
  refine (BL.out _ (KA.out _)).mono ?_
  rintro e w2 ⟨⟨u0, ⟨hu1, hu2⟩, rfl⟩, k2, t2⟩
  obtain ⟨u, rfl⟩ : ∃ u : Nat, u0 = u := ⟨u0.toNat, by omega⟩
  have cn := cell_new hr t2 u
  have CL : ∃ x : Int, w2.cell? ⟨w1.heap.size, u, none⟩ = some (.int .i64 x) ∧ -1 ≤ x ∧ x ≤ 201 := by
    rw [cn]
    exact all_wide (by kernel_rfl) (by simp; omega)
  obtain ⟨x, hx, hx1, hx2⟩ := CL
  have K2 : Hid (Rd w.heap.size w2) := k2
  have B2 : Hid (Below w.heap.size w w2) := (BA.out _).trans t2.bel
  have u0 : (0 : Int) ≤ (u : Int) := by omega
  have u1 : (u : Int) < 8 := by omega
  have u2 : u < 8 := by omega
  clear cn k2 t2 KA BA hr RA B0
  go_wp2_with fail
  refine (WO.out _ K2.out).mono ?_
  rintro e w3 ⟨⟨t, ht, rfl⟩, k3, t3⟩
  have K3 : Hid (Rd w.heap.size w3) := k3
  have B3 : Hid (Below w.heap.size w w3) := B2.out.trans t3.bel
  clear k3 t3 K2 B2 hx
  go_wp2_with fail
  refine (ON.out _ K3.out).mono ?_
  rintro e w4 ⟨⟨c, rfl⟩, k4, t4⟩
  have B4 : Hid (Below w.heap.size w w4) := B3.out.trans t4.bel
  clear k4 t4 K3 B3
  cases c
  · go_wp2_with fail
    go_ret2
    exact ⟨⟨t, x, by omega, rfl⟩, B4.out⟩
  · go_wp2_with fail
    go_ret2
    refine ⟨⟨_, x, ?_, rfl⟩, B4.out⟩
    rw [ByteArray.size_append, ByteArray.size_append]
    have e36 : ∀ X : ByteArray, X.size ≤ 100 → t.size + X.size + t.size ≤ 20000 := fun X h => by omega
    exact e36 _ (by decide)
end Go.Proofs.Ytchdhiojhdoenaa.Rd
